"""Lifts and flat standings: [13]."""

import unittest

from betweencoats.apart import uppers
from betweencoats.errors import BadSize, BadStone, NoPeg
from betweencoats.lifts import closing_rows, is_flat, lifts
from betweencoats.netshapes import line_net, ring_net, star_net
from betweencoats.tableshapes import all_coats, line_coats, unlike_coats
from betweencoats.worlds import made_world
from tests.plainly import MIXED, Case, rested, shortest_runs, small_worlds, standings


def long_lifts(world, a):
    """The lifts, each by the walk along uppers from the base to the place."""
    upper = uppers(world.net, world.base)
    found = []
    for place in range(world.net.many):
        walk = [place]
        while walk[-1] != world.base:
            walk.append(upper[walk[-1]])
        found.append(rested(tuple(a[v] for v in walk[::-1])))
    return tuple(found)


def long_closings(world, a):
    """The third part of the key."""
    upper, rows = uppers(world.net, world.base), long_lifts(world, a)
    return tuple(
        rested(rows[x] + (a[y],) + tuple(reversed(rows[y]))[1:])
        for x, y in world.net.threads if upper[x] != y and upper[y] != x)


class Lifts(Case):

    def test_example(self):
        world = made_world(unlike_coats(3), ring_net(3), pegs=(0,))
        self.assertEqual(lifts(world, (0, 1, 2)), ((0,), (0, 1), (0, 2)))
        self.assertIs(is_flat(world, (0, 1, 2)), False)

    def test_by_hand(self):
        world = made_world(unlike_coats(3), ring_net(4), pegs=(0,))
        self.assertEqual(lifts(world=world, a=(0, 1, 2, 1)), ((0,), (0, 1), (0, 1, 2), (0, 1)))
        self.assertIs(is_flat(world=world, a=(0, 1, 2, 1)), True)
        world = made_world(unlike_coats(3), line_net(4), pegs=(2, 3))
        self.assertEqual(lifts(world, (0, 1, 0, 2)), ((0,), (0, 1), (0,), (0, 2)))
        self.assertEqual(lifts(world, (2, 1, 0, 2)), ((0, 1, 2), (0, 1), (0,), (0, 2)))
        world = made_world(all_coats(2), ring_net(3), pegs=(1,))
        self.assertEqual(lifts(world, (0, 0, 1)), ((0, 0), (0,), (0, 1)))
        self.assertIs(is_flat(world, (0, 0, 1)), False)
        self.assertIs(is_flat(world, (0, 0, 0)), False)
        self.assertIs(is_flat(made_world(all_coats(2), ring_net(4), pegs=(1,)), (0, 0, 0, 0)), True)
        self.assertIs(is_flat(made_world(all_coats(2), ring_net(4), pegs=(1,)), (0, 1, 0, 0)), True)
        self.assertIs(is_flat(made_world(all_coats(2), ring_net(4), pegs=(1,)), (0, 1, 1, 0)), False)
        self.assertIs(is_flat(made_world(all_coats(2), ring_net(4), pegs=(1,)), (0, 0, 1, 1)), False)
        self.assertIs(is_flat(made_world(unlike_coats(3), ring_net(6), pegs=(0,)), (0, 1, 2, 0, 1, 2)), False)

    def test_by_the_words(self):
        for world in small_worlds(pegged_only=True):
            for a in standings(world):
                self.assertEqual(lifts(world, a), long_lifts(world, a))
                self.assertEqual(closing_rows(world, a), long_closings(world, a))
                self.assertIs(is_flat(world, a), all(len(row) == 1 for row in long_closings(world, a)))

    def test_trees_are_flat(self):
        for net in (line_net(1), line_net(5), star_net(5)):
            for table in (all_coats(2), line_coats(3), MIXED):
                for pegs in ((0,), (net.many - 1,)):
                    world = made_world(table, net, pegs=pegs)
                    for a in standings(world):
                        self.assertIs(is_flat(world, a), True)

    def test_what_comes_of_a_flat_one_is_flat(self):
        flats = set()
        for world in small_worlds(pegged_only=True):
            for a in standings(world)[::6]:
                flat = is_flat(world, a)
                flats.add(flat)
                for b in shortest_runs(world, a):
                    self.assertIs(is_flat(world, b), flat)
        self.assertEqual(flats, {False, True})

    def test_errors(self):
        free = made_world(unlike_coats(3), ring_net(4))
        pegged = made_world(unlike_coats(3), ring_net(4), pegs=(2,))
        for call in (lifts, is_flat):
            self.refuses(NoPeg, 0, call, free, (0, 1, 0, 1))
            self.refuses(NoPeg, 0, call, free, ())
            self.refuses(NoPeg, 0, call, free, (9, 9, 9, 9))
            self.refuses(BadSize, 0, call, pegged, ())
            self.refuses(BadSize, 5, call, pegged, (0, 1, 0, 1, 0))
            self.refuses(BadStone, 1, call, pegged, (0, 0, 1, 2))
            self.refuses(BadStone, 3, call, pegged, (0, 1, 0, 0))


if __name__ == "__main__":
    unittest.main()
