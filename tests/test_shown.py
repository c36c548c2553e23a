"""What a place may show: [23]."""

import itertools
import time
import unittest

from betweencoats.errors import BadPlace, BadSize, BadStone, NoPeg, NotFlat
from betweencoats.lifts import is_flat
from betweencoats.netshapes import grid_net, line_net, ring_net, star_net
from betweencoats.shown import shown
from betweencoats.tableshapes import all_coats, line_coats, ring_coats, unlike_coats
from betweencoats.worlds import made_world
from tests.plainly import EYE, KITE, MIXED, Case, classes, small_worlds


def more_worlds():
    for pegs in ((0, 5), (1, 3), (0, 2, 4), (2,)):
        for table in (line_coats(4), unlike_coats(3), all_coats(2)):
            for net in (EYE, line_net(6), grid_net(3, 2), ring_net(6)):
                yield made_world(table, net, pegs=pegs)
    for table in (ring_coats(4), MIXED, unlike_coats(4)):
        for net, pegs in ((KITE, (0, 1)), (line_net(5), (0, 4)), (star_net(4), (1, 2, 3)), (line_net(1), (0,))):
            yield made_world(table, net, pegs=pegs)


class Shown(Case):

    def test_examples(self):
        world = made_world(line_coats(4), line_net(3), pegs=(0, 2))
        self.assertEqual(shown(world=world, a=(1, 0, 1), place=1), (0, 2))
        world = made_world(line_coats(4), line_net(3), pegs=(0,))
        self.assertEqual(shown(world, (1, 2, 3), 2), (1, 3))

    def test_by_hand(self):
        world = made_world(line_coats(4), line_net(3), pegs=(0,))
        self.assertEqual(shown(world, (1, 2, 3), 0), (1,))
        self.assertEqual(shown(world, (1, 2, 3), 1), (0, 2))
        self.assertEqual(shown(world, (0, 1, 2), 1), (1,))
        world = made_world(line_coats(4), line_net(3), pegs=(0, 2))
        self.assertEqual([shown(world, (1, 2, 3), place) for place in range(3)], [(1,), (2,), (3,)])
        world = made_world(MIXED, line_net(1), pegs=(0,))
        self.assertEqual([shown(world, (coat,), 0) for coat in range(5)], [(0,), (1,), (2,), (3,), (4,)])

    def test_against_the_class(self):
        flat = 0
        for world in list(small_worlds(pegged_only=True)) + list(more_worlds()):
            for members in classes(world):
                for a in members[::1 + len(members) // 2]:
                    if is_flat(world, a):
                        flat += 1
                        for place in range(world.net.many):
                            coats = {b[place] for b in members}
                            self.assertEqual(shown(world, a, place), tuple(sorted(coats)))
                    else:
                        self.refuses(NotFlat, 0, shown, world, a, world.net.many - 1)
        self.assertGreater(flat, 500)

    def test_a_line_of_24_round_a_ring_of_coats(self):
        # The lifts are heights above the coat at the base, up or down by one along each thread.
        for many in (3, 5, 8):
            world = made_world(ring_coats(many), line_net(24), pegs=(0, 23))
            for top in (23, 21, 3, -1, -15):
                ups = (23 + top) // 2
                heights = [min(at, ups) - max(0, at - ups) for at in range(24)]
                self.assertEqual(heights[-1], top)
                a = tuple(height % many for height in heights)
                for place in range(24):
                    near = range(-place, place + 1, 2)
                    wanted = {height % many for height in near if abs(top - height) <= 23 - place}
                    self.assertEqual(shown(world, a, place), tuple(sorted(wanted)))

    def test_a_line_of_24_with_one_peg(self):
        for many in range(1, 9):
            for table in (all_coats(many), unlike_coats(max(2, many)), line_coats(max(2, many))):
                world = made_world(table, line_net(24), pegs=(4,))
                begun = [0]
                while len(begun) < 24:
                    begun.append(table.beside[begun[-1]][-1])
                for place in range(24):
                    ends = {begun[4]}
                    for _ in range(abs(place - 4)):
                        ends = {road for end in ends for road in table.beside[end]}
                    self.assertEqual(shown(world, tuple(begun), place), tuple(sorted(ends)))

    def test_a_line_of_24_in_a_short_time(self):
        begun = time.perf_counter()
        for table in (all_coats(8), unlike_coats(8), ring_coats(8)):
            for pegs in ((0, 23), tuple(range(0, 24, 3)), tuple(range(24)), (11,)):
                world, a = made_world(table, line_net(24), pegs=pegs), tuple(at % 8 for at in range(24))
                for place in range(24):
                    self.assertIn(a[place], shown(world, a, place))
        self.assertLess(time.perf_counter() - begun, 10)

    def test_errors_come_in_their_order(self):
        free = made_world(unlike_coats(3), ring_net(3))
        world = made_world(unlike_coats(3), ring_net(3), pegs=(1,))
        self.refuses(NoPeg, 0, shown, free, (), 9)
        self.refuses(BadSize, 0, shown, world, (), 9)
        self.refuses(BadStone, 1, shown, world, (0, 0, 2), 9)
        for place in (3, -1, 10 ** 20, -3):
            self.refuses(BadPlace, place, shown, world, (0, 1, 2), place)
        for place in range(3):
            self.refuses(NotFlat, 0, shown, world, (0, 1, 2), place)


if __name__ == "__main__":
    unittest.main()
