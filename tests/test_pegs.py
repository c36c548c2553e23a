"""More pegs, fewer pegs, another table, bars and quiet places: [20]."""

import itertools
import unittest

from betweencoats.bars import bars, quiet
from betweencoats.errors import BadPlace, BadSize, BadStone, NoPeg, NotPegged
from betweencoats.forks import forks
from betweencoats.leastruns import least_run
from betweencoats.links import link
from betweencoats.nets import made_net
from betweencoats.netshapes import line_net, ring_net, star_net
from betweencoats.pegs import with_pegs, with_table, without_peg
from betweencoats.rounds import rounds
from betweencoats.same import come
from betweencoats.tables import made_table
from betweencoats.tableshapes import all_coats, line_coats, unlike_coats
from betweencoats.tracks import tracks
from betweencoats.work import least, work
from betweencoats.worlds import World, made_world
from tests.plainly import (
    Case, fewest, frozen_places, small_worlds, standings, straight_ring_worlds)

BOTH = made_world(all_coats(2), line_net(4), pegs=(0, 3))
FIRST = made_world(all_coats(2), line_net(4), pegs=(0,))
FREE = made_world(all_coats(2), line_net(4))


class Pegs(Case):

    def test_with_pegs(self):
        self.assertEqual(with_pegs(world=FIRST, places=(3,)), BOTH)
        self.assertEqual(with_pegs(FIRST, ()), FIRST)
        self.assertEqual(with_pegs(FREE, ()), FREE)
        self.assertEqual(with_pegs(FREE, (3, 0)), BOTH)
        self.assertEqual(with_pegs(FREE, (3, 0, 3, 3, 0)), BOTH)
        self.assertEqual(with_pegs(BOTH, (0, 3, 0)), BOTH)
        found = with_pegs(FIRST, (2, 1, 2, 0))
        self.assertIsInstance(found, World)
        self.assertEqual((found.pegs, found.base), ((0, 1, 2), 0))
        self.assertEqual(found.net, FIRST.net)
        self.assertEqual(found.table, FIRST.table)
        found = with_pegs(made_world(all_coats(2), line_net(4), pegs=(3,)), (1,))
        self.assertEqual((found.pegs, found.base), ((1, 3), 1))

    def test_with_pegs_errors(self):
        for world in (FREE, FIRST, BOTH):
            self.refuses(BadPlace, 4, with_pegs, world, (4,))
            self.refuses(BadPlace, -1, with_pegs, world, (-1,))
            self.refuses(BadPlace, 9, with_pegs, world, (3, 1, 9, -4, 0))
            self.refuses(BadPlace, -10 ** 20, with_pegs, world, (0, -10 ** 20, 10 ** 20))

    def test_without_peg(self):
        self.assertEqual(without_peg(world=BOTH, place=3), FIRST)
        self.assertEqual(without_peg(FIRST, 0), FREE)
        self.assertEqual(without_peg(FIRST, 0).base, 0)
        found = without_peg(BOTH, 0)
        self.assertIsInstance(found, World)
        self.assertEqual((found.pegs, found.base), ((3,), 3))
        self.assertEqual((without_peg(found, 3).pegs, without_peg(found, 3).base), ((), 0))
        self.assertEqual(found.net, BOTH.net)
        self.assertEqual(found.table, BOTH.table)

    def test_without_peg_errors(self):
        for world in (FREE, FIRST, BOTH):
            for place in (4, -1, 10 ** 20, -4):
                self.refuses(BadPlace, place, without_peg, world, place)
            for place in (1, 2):
                self.refuses(NotPegged, place, without_peg, world, place)
        self.refuses(NotPegged, 0, without_peg, FREE, 0)
        self.refuses(NotPegged, 3, without_peg, FIRST, 3)

    def test_with_table(self):
        for world in (FREE, FIRST, BOTH):
            found = with_table(world=world, table=unlike_coats(3))
            self.assertIsInstance(found, World)
            self.assertEqual(found, made_world(unlike_coats(3), line_net(4), pegs=world.pegs))
            self.assertEqual(found.base, world.base)
        self.assertEqual(with_table(BOTH, all_coats(2)), BOTH)

    def test_nothing_is_changed(self):
        with_pegs(FIRST, (1, 2, 3))
        without_peg(FIRST, 0)
        with_table(FIRST, unlike_coats(3))
        self.assertEqual(FIRST, made_world(all_coats(2), line_net(4), pegs=(0,)))
        self.assertEqual(FIRST.base, 0)


class Bars(Case):

    def test_example(self):
        a, b = (0, 0, 0, 0), (0, 1, 1, 0)
        self.assertEqual(link(BOTH, a, b)[3], (0, 0, 1, 1, 0))
        self.assertEqual(bars(world=BOTH, a=a, b=b), (3,))
        self.assertIs(come(BOTH, a, b), False)
        self.assertIsNone(quiet(BOTH, a, b))
        self.assertEqual(bars(FIRST, a, b), ())
        self.assertEqual(quiet(world=FIRST, a=a, b=b), (0,))

    def test_without_a_link(self):
        world = made_world(unlike_coats(3), ring_net(3), pegs=(0,))
        for b in ((0, 2, 1), (1, 2, 0)):
            self.assertIsNone(bars(world, (0, 1, 2), b))
            self.assertIsNone(quiet(world, (0, 1, 2), b))
        self.assertEqual(bars(world, (0, 1, 2), (0, 1, 2)), ())
        self.assertEqual(quiet(world, (0, 1, 2), (0, 1, 2)), (0, 1, 2))

    def test_frozen_places_that_are_no_pegs(self):
        # The ring of three is frozen; the peg hangs at it.
        world = made_world(unlike_coats(3), made_net(4, ((0, 1), (0, 2), (0, 3), (1, 2))), pegs=(3,))
        self.assertEqual(frozen_places(world, (0, 1, 2, 2)), (0, 1, 2, 3))
        self.assertEqual(link(world, (0, 1, 2, 2), (1, 2, 0, 2)), ((0, 2, 1), (1, 0, 2), (2, 1, 0), (2,)))
        self.assertEqual(bars(world, (0, 1, 2, 2), (1, 2, 0, 2)), (0, 1, 2))
        self.assertIsNone(quiet(world, (0, 1, 2, 2), (1, 2, 0, 2)))

    def test_by_the_words(self):
        told = {None: 0, True: 0, False: 0}
        for world in list(small_worlds(pegged_only=True)) + list(straight_ring_worlds()):
            known = standings(world)
            for a in known[::9]:
                still, far = frozen_places(world, a), fewest(world, a)
                for b in known:
                    rows, found = link(world, a, b), bars(world, a, b)
                    self.assertEqual(found == (), b in far)
                    if rows is None:
                        self.assertIsNone(found)
                    else:
                        self.assertEqual(found, tuple(place for place in still if len(rows[place]) > 1))
                    told[None if found is None else bool(set(found) - set(world.pegs))] += 1
                    wanted = tuple(place for place in range(world.net.many) if rows and len(rows[place]) == 1)
                    self.assertEqual(quiet(world, a, b), wanted if b in far else None)
        self.assertGreater(min(told.values()), 30)

    def test_errors_come_in_their_order(self):
        for call in (bars, quiet):
            self.refuses(NoPeg, 0, call, FREE, (), ())
            self.refuses(BadSize, 1, call, BOTH, (0,), (9, 9, 9, 9))
            self.refuses(BadSize, 0, call, BOTH, (0, 0, 0, 0), ())
            self.refuses(BadStone, 2, call, BOTH, (0, 0, 2, 0), ())
            self.refuses(BadStone, 0, call, BOTH, (0, 0, 0, 0), (9, 9, 9, 9))


class WhatHolds(Case):

    def facts(self, world, a, b):
        return [call(world, a, b) for call in (come, link, least, work, tracks, least_run)]

    def test_more_pegs(self):
        some = 0
        for world in list(small_worlds(pegged_only=True))[::2]:
            for a in standings(world)[::25]:
                for b in list(fewest(world, a))[::3]:
                    still = quiet(world, a, b)
                    for places in itertools.combinations(range(world.net.many), 2):
                        other = with_pegs(world, places)
                        self.assertIs(come(other, a, b), set(places) <= set(still))
                        if come(other, a, b):
                            self.assertEqual(self.facts(other, a, b), self.facts(world, a, b))
                        else:
                            some += 1
        self.assertGreater(some, 100)

    def test_fewer_pegs(self):
        for world in small_worlds(pegged_only=True):
            if len(world.pegs) == 2:
                for a in standings(world)[::25]:
                    for b in list(fewest(world, a))[::3]:
                        for peg in world.pegs:
                            other = without_peg(world, peg)
                            self.assertEqual(self.facts(other, a, b), self.facts(world, a, b))

    def test_other_tables(self):
        more = made_table(((0, 1, 3), (0, 2), (1, 3), (0, 2, 3)))
        pairs = ((line_coats(3), unlike_coats(3)), (unlike_coats(3), all_coats(3)), (line_coats(4), more),
                 (unlike_coats(3), unlike_coats(8)))
        for net in (line_net(4), ring_net(4), star_net(4), ring_net(6)):
            for one, two in pairs:
                for pegs in ((0,), (1, net.many - 1)):
                    self.check_tables(made_world(one, net, pegs=pegs), two)

    def check_tables(self, world, table):
        other = with_table(world, table)
        known = standings(world)
        c = known[len(known) // 2]
        for a, b in itertools.product(known[::11], known[::5]):
            for call in (come, link, work, tracks, rounds, bars, quiet):
                self.assertEqual(call(other, a, b), call(world, a, b))
            self.assertEqual(forks(other, a, b, c), forks(world, a, b, c))


if __name__ == "__main__":
    unittest.main()
