"""The best link: [35]."""

import itertools
import time
import unittest

from betweencoats.bestlinks import best_link
from betweencoats.errors import BadCount, BadSize, BadStone
from betweencoats.linkjudge import link_right
from betweencoats.nets import made_net
from betweencoats.netshapes import line_net, ring_net, star_net
from betweencoats.same import come
from betweencoats.tableshapes import all_coats, line_coats, unlike_coats
from betweencoats.worlds import made_world
from tests.plainly import MIXED, Case, fewest, is_right, rested, small_worlds, standings
from tests.test_links import followed

PAIR = made_world(unlike_coats(3), line_net(2))


def even_straight_rows(table, start, most):
    """All straight rows of 0, 2 .. most steps that begin with a coat."""
    rows = [(start,)]
    found = [(start,)]
    for steps in range(1, most + 1):
        rows = [row + (coat,) for row in rows for coat in table.beside[row[-1]]]
        rows = [row for row in rows if rested(row) == row]
        found += rows if steps % 2 == 0 else []
    return found


def right_links(world, a, b, most):
    """All right links with at most so many steps at the base, in the order in which they are preferred."""
    found = []
    for first in even_straight_rows(world.table, a[world.base], most):
        if first[-1] == b[world.base]:
            rows = followed(world, a, b, first)
            if rows is not None and is_right(world, a, b, rows):
                found.append((sum(len(row) - 1 for row in rows), len(first), first, rows))
    return [found_one[-1] for found_one in sorted(found)]


class BestLinks(Case):

    def test_by_hand(self):
        self.assertEqual(best_link(PAIR, (0, 1), (0, 1)), ((0,), (1,)))
        self.assertEqual(best_link(world=PAIR, a=(0, 1), b=(2, 1)), ((0, 1, 2), (1,)))
        # Two links of one sum: the one with fewer steps at the base. The other one has 0 1 2 0 1 there.
        self.assertEqual(best_link(PAIR, (0, 1), (1, 0)), ((0, 2, 1), (1, 0, 2, 1, 0)))
        # As many steps at the base, too: the lesser row.
        world = made_world(unlike_coats(4), line_net(2))
        self.assertEqual(best_link(world, (0, 1), (1, 0)), ((0, 2, 1), (1, 0, 2, 1, 0)))
        world = made_world(all_coats(3), line_net(1))
        self.assertIsNone(best_link(world, (0,), (1,)))
        self.assertEqual(best_link(world, (1,), (1,)), ((1,),))

    def test_two_links_of_one_sum(self):
        same_steps, fewer_steps = set(), set()
        for world in small_worlds():
            if world.net.many <= 4 and world.table.many <= 3 and not world.pegs:
                known = standings(world)
                for a, b in itertools.product(known[::2], known[::2]):
                    links = right_links(world, a, b, 4)
                    if len(links) > 1:
                        one, two = links[:2]
                        if sum(map(len, one)) == sum(map(len, two)):
                            self.assertEqual(best_link(world, a, b), one)
                            (same_steps if len(one[0]) == len(two[0]) else fewer_steps).add((a, b))
        self.assertGreater(len(same_steps), 5)
        self.assertGreater(len(fewer_steps), 10)

    def test_against_listings(self):
        some = {False: 0, True: 0}
        for world in small_worlds():
            if world.net.many <= 5:
                known = standings(world)
                for a, b in itertools.product(known[::11], known[::7]):
                    for most in range(5):
                        links = right_links(world, a, b, most)
                        wanted = links[0] if links else None
                        self.assertEqual(best_link(world, a, b, most=most), wanted)
                        some[wanted is None] += 1
                    self.assertEqual(best_link(world, a, b), wanted)
        self.assertGreater(min(some.values()), 1000)

    def test_what_comes(self):
        # With a peg at the base each right link has the single row there; without one some link is found too.
        for world in small_worlds():
            if world.net.many <= 4:
                known = standings(world)
                for a in known[::9]:
                    least = fewest(world, a)
                    for b in known[::3]:
                        rows = best_link(world, a, b)
                        if world.pegs:
                            self.assertIs(rows is not None, come(world, a, b))
                        if rows is not None:
                            self.assertTrue(link_right(world, a, b, rows))
                            self.assertIn(b, least)
                            # Where the best link of all has few steps at the base, it is this one.
                            self.assertGreaterEqual(sum(len(row) - 1 for row in rows), 2 * least[b])

    def test_frozen_places(self):
        world = made_world(unlike_coats(3), ring_net(6))
        a, b = (0, 1, 2, 0, 1, 2), (1, 2, 0, 1, 2, 0)
        self.assertIsNone(best_link(world, a, b))
        self.assertEqual(best_link(world, a, a), tuple((coat,) for coat in a))
        # A tail at a ring that is frozen: its end alone can move.
        world = made_world(unlike_coats(3), made_net(4, ((0, 1), (1, 2), (1, 3), (2, 3))))
        self.assertEqual(best_link(world, (0, 1, 2, 0), (2, 1, 2, 0)), ((0, 1, 2), (1,), (2,), (0,)))
        self.assertIsNone(best_link(world, (0, 1, 2, 0), (2, 1, 2, 0), most=1))
        self.assertIsNone(best_link(world, (0, 1, 2, 0), (0, 1, 0, 2)))

    def test_most(self):
        # The row at the base has to be 0 1 2 3 4.
        world = made_world(line_coats(5), star_net(3))
        a, b = (0, 1, 1), (4, 3, 3)
        for most in range(4):
            self.assertIsNone(best_link(world, a, b, most=most))
        self.assertEqual(best_link(world, a, b, most=4), ((0, 1, 2, 3, 4), (1, 2, 3), (1, 2, 3)))
        world = made_world(line_coats(7), star_net(3))
        self.assertIsNone(best_link(world, (0, 1, 1), (6, 5, 5)))

    def test_large_worlds(self):
        begun = time.perf_counter()
        threads = tuple(sorted([(x, x + 1) for x in range(23)] + [(x, x + 2) for x in range(22)]))
        for net in (made_net(24, threads), star_net(24), ring_net(24)):
            world = made_world(all_coats(8), net)
            a, b = (0,) * 24, (0,) * 23 + (5,)
            rows = best_link(world, a, b)
            self.assertEqual(rows, ((0,),) * 23 + ((0, 0, 5),))
        self.assertLess(time.perf_counter() - begun, 10)

    def test_errors(self):
        for pegs in ((), (0,), (1, 2)):
            world = made_world(MIXED, line_net(3), pegs=pegs)
            right = (0, 1, 2)
            for most in (2, -1, 5):
                self.refuses(BadSize, 0, best_link, world, (), (), most=most)
                self.refuses(BadSize, 4, best_link, world, (9,) * 4, (), most=most)
                self.refuses(BadStone, 1, best_link, world, (0, 2, 9), (), most=most)
                self.refuses(BadSize, 2, best_link, world, right, (0, 1), most=most)
                self.refuses(BadStone, 2, best_link, world, right, (0, 1, 1), most=most)
            for most in (-1, 5, 10 ** 20, -4):
                self.refuses(BadCount, most, best_link, world, right, right, most=most)
                self.refuses(BadCount, most, best_link, world, right, (2, 3, 2), most=most)
            self.assertRaises(TypeError, best_link, world, right, right, 4)


if __name__ == "__main__":
    unittest.main()
