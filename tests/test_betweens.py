"""Standings between, and how many least runs there are: [16]."""

import itertools
import math
import unittest

from betweencoats.betweens import between
from betweencoats.countruns import between_many, least_runs
from betweencoats.errors import BadSize, BadStone, NoPeg, TooMany
from betweencoats.netshapes import line_net, ring_net, star_net
from betweencoats.tableshapes import all_coats, unlike_coats
from betweencoats.work import least
from betweencoats.worlds import made_world
from tests.plainly import Case, after, deeds, fewest, small_worlds, standings, straight_ring_worlds

SQUARE = made_world(unlike_coats(3), ring_net(4), pegs=(0,))


def listed(world, a, far):
    """All least runs from a, as the standings on the way; far tells the fewest deeds to the end."""
    if far[a] == 0:
        return [(a,)]
    nearer = [after(a, deed) for deed in deeds(world, a) if far[after(a, deed)] == far[a] - 1]
    return [(a,) + way for other in nearer for way in listed(world, other, far)]


class Between(Case):

    def test_by_hand(self):
        a, b = (0, 1, 0, 1), (0, 2, 0, 2)
        self.assertIs(between(world=SQUARE, a=a, x=(0, 2, 0, 1), b=b), True)
        self.assertIs(between(SQUARE, a, (0, 1, 0, 2), b), True)
        self.assertIs(between(SQUARE, a, a, b), True)
        self.assertIs(between(SQUARE, a, b, b), True)
        self.assertIs(between(SQUARE, a, (0, 1, 2, 1), b), False)
        self.assertIs(between(SQUARE, a, b, a), False)
        self.assertIs(between(SQUARE, a, a, a), True)

    def test_what_does_not_come(self):
        a = (0, 1, 0, 1)
        for other in ((1, 0, 1, 0), (2, 1, 0, 1)):
            self.assertIs(between(SQUARE, a, other, a), False)
            self.assertIs(between(SQUARE, a, a, other), False)
            self.assertIs(between(SQUARE, other, a, a), False)
            self.assertIs(between(SQUARE, a, other, other), False)
            self.assertIs(between(SQUARE, other, a, other), False)

    def test_against_sums_of_fewest_deeds(self):
        for world in list(small_worlds(pegged_only=True)) + list(straight_ring_worlds()):
            known = standings(world)
            some = known[::1 + len(known) // 12]
            far = {a: fewest(world, a) for a in some}
            for a, x, b in itertools.product(some, some, some):
                wanted = x in far[a] and b in far[a] and far[a][x] + far[x][b] == far[a][b]
                self.assertIs(between(world, a, x, b), wanted)

    def test_errors_come_in_their_order(self):
        a = (0, 1, 0, 1)
        free = made_world(unlike_coats(3), ring_net(4))
        self.refuses(NoPeg, 0, between, free, (), (), ())
        self.refuses(BadSize, 1, between, SQUARE, (0,), (), (9, 9, 9, 9))
        self.refuses(BadSize, 0, between, SQUARE, a, (), (9, 9, 9, 9))
        self.refuses(BadStone, 0, between, SQUARE, a, (9, 9, 9, 9), (0,))
        self.refuses(BadSize, 2, between, SQUARE, a, (1, 0, 1, 0), (0, 1))
        self.refuses(BadStone, 3, between, SQUARE, a, a, (0, 1, 0, 0))


class Counts(Case):

    def test_example(self):
        a, b = (0, 1, 0, 1), (0, 2, 0, 2)
        self.assertEqual(least_runs(world=SQUARE, a=a, b=b), 2)
        self.assertEqual(between_many(world=SQUARE, a=a, b=b), 4)

    def test_against_a_listing(self):
        for world in small_worlds(pegged_only=True):
            known = standings(world)
            for b in known[::11]:
                far = fewest(world, b)
                for a in known[::3]:
                    self.check_counts(world, a, b, far)

    def check_counts(self, world, a, b, far):
        if a not in far:
            self.assertIsNone(least_runs(world, a, b))
            self.assertIsNone(between_many(world, a, b))
            return
        ways = listed(world, a, far)
        self.assertEqual(least_runs(world, a, b), len(ways))
        met = {state for way in ways for state in way}
        self.assertEqual(between_many(world, a, b), len(met))
        if a == b:
            self.assertEqual((len(ways), len(met)), (1, 1))

    def test_12_and_13_deeds_at_a_star(self):
        for leaves in (12, 13, 20):
            world = made_world(unlike_coats(3), star_net(leaves + 1), pegs=(0,))
            a, b = (0,) + (1,) * leaves, (0,) + (2,) * 12 + (1,) * (leaves - 12)
            self.assertEqual(least(world, a, b), 12)
            self.assertEqual(least_runs(world, a, b), math.factorial(12))
            self.assertEqual(between_many(world, a, b), 2 ** 12)
        b = (0,) + (2,) * 13 + (1,) * 7
        self.refuses(TooMany, 13, least_runs, world, a, b)
        self.refuses(TooMany, 13, between_many, world, a, b)
        b = (0,) + (2,) * 20
        self.refuses(TooMany, 20, least_runs, world, a, b)
        self.refuses(TooMany, 20, between_many, world, a, b)

    def test_12_and_13_deeds_on_a_line(self):
        world = made_world(all_coats(2), line_net(6), pegs=(0,))
        many = {12: 0, 13: 0}
        for a in standings(world)[:32:5]:
            far = fewest(world, a)
            for b in standings(world)[:32]:
                if far[b] <= 12:
                    self.check_counts(world, b, a, far)
                else:
                    self.refuses(TooMany, far[b], least_runs, world, a, b)
                    self.refuses(TooMany, far[b], between_many, world, a, b)
                if far[b] in many:
                    many[far[b]] += 1
        self.assertGreater(min(many.values()), 0)

    def test_what_does_not_come_has_no_number(self):
        # Above 12 deeds, were it not for the second peg.
        world = made_world(unlike_coats(3), line_net(24), pegs=(0, 23))
        a = tuple(at % 3 for at in range(24))
        b = tuple(-at % 3 for at in range(24))
        self.assertIsNone(least_runs(world, a, b))
        self.assertIsNone(between_many(world, a, b))

    def test_errors_come_in_their_order(self):
        a = (0, 1, 0, 1)
        free = made_world(unlike_coats(3), ring_net(4))
        for call in (least_runs, between_many):
            self.refuses(NoPeg, 0, call, free, (), ())
            self.refuses(BadSize, 1, call, SQUARE, (0,), (9,) * 4)
            self.refuses(BadStone, 0, call, SQUARE, a, (9,) * 4)
            self.refuses(BadStone, 3, call, SQUARE, a, (0, 1, 0, 0))


if __name__ == "__main__":
    unittest.main()
