"""The standing over a standing: [39]."""

import itertools
import unittest

from betweencoats.covers import over
from betweencoats.errors import BadFirst, BadMap, BadSize, BadStone
from betweencoats.nets import made_net
from betweencoats.netshapes import grid_net, line_net, ring_net, star_net
from betweencoats.tablemaps import image
from betweencoats.tableshapes import all_coats, doubled, ring_coats, unlike_coats
from betweencoats.worlds import made_world
from tests.plainly import BOW, EYE, KITE, ODD_THINGS, Case, nested, standings
from tests.test_tablemaps import COVERS, MAPS

TWO = doubled(unlike_coats(3))
HALVES = (0, 0, 1, 1, 2, 2)
TREES = (line_net(1), line_net(4), star_net(4), made_net(5, ((0, 4), (1, 3), (2, 3), (3, 4))))
NETS = TREES + (ring_net(3), ring_net(4), ring_net(5), ring_net(6), KITE, BOW, EYE, grid_net(3, 2))


class Over(Case):

    def test_by_hand(self):
        net = line_net(4)
        self.assertEqual(over(TWO, unlike_coats(3), HALVES, net, (0, 1, 2, 0), 0), (0, 3, 4, 1))
        self.assertEqual(over(TWO, unlike_coats(3), HALVES, net, (0, 1, 2, 0), 1), (1, 2, 5, 0))
        self.assertEqual(over(
            table=TWO, other=unlike_coats(3), coats=HALVES, net=ring_net(4), standing=(0, 1, 0, 2), first=1), (1, 2, 1, 4))
        # An odd way round changes the side.
        for first in (0, 1):
            self.assertIsNone(over(TWO, unlike_coats(3), HALVES, ring_net(3), (0, 1, 2), first))
        # Round a ring of six coats over three, and half round it.
        cover = (0, 1, 2, 0, 1, 2)
        self.assertIsNone(over(ring_coats(6), ring_coats(3), cover, ring_net(3), (0, 1, 2), 3))
        self.assertEqual(over(ring_coats(6), ring_coats(3), cover, ring_net(6), (0, 1, 2) * 2, 3), (3, 4, 5, 0, 1, 2))
        self.assertEqual(over(unlike_coats(3), unlike_coats(3), (1, 2, 0), ring_net(3), (0, 1, 2), 2), (2, 0, 1))

    def test_against_listings(self):
        told = set()
        for table, other, coats in COVERS:
            for net in NETS:
                if net.many <= 5 or table.many <= 4:
                    self.check_net(table, other, coats, net, told)
        self.assertEqual(told, {False, True})

    def check_net(self, table, other, coats, net, told):
        images = {}
        for stones in standings(made_world(table, net)):
            images.setdefault((image(stones, coats), stones[0]), []).append(stones)
        self.assertLessEqual({len(found) for found in images.values()}, {1})
        for standing in standings(made_world(other, net)):
            alike = []
            for first in range(table.many):
                if coats[first] == standing[0]:
                    found = images.get((standing, first), [None])[0]
                    self.assertEqual(over(table, other, coats, net, standing, first), found)
                    told.add(found is None)
                    alike += [found] if found else []
                    if net in TREES:
                        self.assertIsNotNone(found)
                else:
                    self.refuses(BadFirst, first, over, table, other, coats, net, standing, first)
            for one, two in itertools.combinations(alike, 2):
                self.assertTrue(all(p != q for p, q in zip(one, two)))


class Errors(Case):

    def test_whatever_is_no_cover(self):
        net = line_net(3)
        deep = (nested(100), (0,) * 10 ** 5, "001122", ("0",) * 6, (0, 0, 1, 1, 2, True), None, 7)
        for thing in ODD_THINGS + deep + ((0, 0, 1, 1, 2, 3), (0, 0, 1, 1, 2), HALVES + (0,), (0, 1, 0, 1, 2, 2)):
            for standing in ((0, 1, 2), (), (9, 9, 9)):
                for first in (0, 2, -1):
                    self.refuses(BadMap, 0, over, TWO, unlike_coats(3), thing, net, standing, first)
        for table, other, coats in MAPS:
            self.refuses(BadMap, 0, over, table, other, coats, net, (), -1)
        # The cover leads from the first table to the second one.
        self.refuses(BadMap, 0, over, unlike_coats(3), TWO, (0, 2, 4), net, (0, 1, 2), 0)
        self.refuses(BadMap, 0, over, TWO, all_coats(3), HALVES, net, (0, 1, 2), 0)

    def test_standings_stand_on_the_other_table(self):
        net = line_net(3)
        for first in (0, 2, -1):
            self.refuses(BadSize, 0, over, TWO, unlike_coats(3), HALVES, net, (), first)
            self.refuses(BadSize, 4, over, TWO, unlike_coats(3), HALVES, net, (9,) * 4, first)
            self.refuses(BadStone, 0, over, TWO, unlike_coats(3), HALVES, net, (3, 2, 3), first)
            self.refuses(BadStone, 1, over, TWO, unlike_coats(3), HALVES, net, (0, 3, 4), first)
            self.refuses(BadStone, 2, over, TWO, unlike_coats(3), HALVES, net, (0, 1, 1), first)

    def test_first(self):
        net = line_net(3)
        for first in (-1, 6, 10 ** 20, -6, -5, 2, 5):
            self.refuses(BadFirst, first, over, TWO, unlike_coats(3), HALVES, net, (0, 1, 2), first)
        for first in (0, 1, -2, -1, 6):
            self.refuses(BadFirst, first, over, TWO, unlike_coats(3), HALVES, net, (2, 1, 2), first)
        # Also where there would be none.
        self.refuses(BadFirst, 3, over, TWO, unlike_coats(3), HALVES, ring_net(3), (0, 1, 2), 3)


if __name__ == "__main__":
    unittest.main()
