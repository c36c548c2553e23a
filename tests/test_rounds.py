"""Tracks, rounds and their judge: [15]."""

import itertools
import unittest

from betweencoats.leastruns import least_run, lessening
from betweencoats.netshapes import line_net, ring_net, star_net
from betweencoats.roundjudge import rounds_right
from betweencoats.rounds import rounds
from betweencoats.tableshapes import all_coats, unlike_coats
from betweencoats.tracks import tracks
from betweencoats.work import least, work
from betweencoats.worlds import made_world
from tests.plainly import (
    ODD_THINGS, Case, after, deeds, nested, neighbours, shortest_runs, small_worlds, standings)

SQUARE = made_world(unlike_coats(3), ring_net(4), pegs=(0,))
FREE = made_world(unlike_coats(3), ring_net(4))


def after_all(standing, together):
    for deed in together:
        standing = after(standing, deed)
    return standing


def choices(world, standing):
    """All rounds that may be done at a standing."""
    known = deeds(world, standing)
    for many in range(1, len(known) + 1):
        for together in itertools.combinations(known, many):
            places = [place for place, _ in together]
            apart = all(y not in neighbours(world.net, x) for x in places for y in places)
            if apart and len(set(places)) == many:
                yield together


def fewest_rounds(world, a):
    """For each standing that comes of a the fewest rounds to it."""
    far, layer = {a: 0}, [a]
    while layer:
        fresh = []
        for state in layer:
            for together in choices(world, state):
                other = after_all(state, together)
                if other not in far:
                    far[other] = far[state] + 1
                    fresh.append(other)
        layer = fresh
    return far


def right_by_the_words(world, a, b, parts):
    """Whether rounds, tuples of pairs of numbers, lead from a to b."""
    for together in parts:
        places = [place for place, _ in together]
        if places != sorted(set(places)) or not together:
            return False
        if any((x, y) in world.net.threads for x in places for y in places):
            return False
        if any(deed not in deeds(world, a) for deed in together):
            return False
        a = after_all(a, together)
    return a == b


class Examples(Case):

    def test_square(self):
        a, b = (0, 1, 0, 1), (0, 2, 0, 2)
        self.assertEqual(work(SQUARE, a, b), (0, 1, 0, 1))
        self.assertEqual(tracks(world=SQUARE, a=a, b=b), ((0,), (1, 2), (0,), (1, 2)))
        self.assertEqual(rounds(world=SQUARE, a=a, b=b), (((1, 2), (3, 2)),))
        self.assertIs(rounds_right(world=SQUARE, a=a, b=b, rounds=(((1, 2), (3, 2)),)), True)

    def test_line(self):
        world = made_world(all_coats(2), line_net(4), pegs=(0,))
        a, b = (0, 0, 0, 0), (0, 1, 1, 0)
        self.assertEqual(tracks(world, a, b), ((0,), (0, 1), (0, 1), (0, 1, 0)))
        self.assertEqual(rounds(world, a, b), (((1, 1), (3, 1)), ((2, 1),), ((3, 0),)))

    def test_what_does_not_come(self):
        for b in ((1, 0, 1, 0), (0, 1, 2, 1)):
            world = made_world(unlike_coats(3), ring_net(4), pegs=(0, 2))
            self.assertIsNone(rounds(world, (0, 1, 0, 1), b))
            self.assertIsNone(tracks(world, (0, 1, 0, 1), b))


class RoundsAndTracks(Case):

    def test_rounds_by_their_words(self):
        for world in small_worlds(pegged_only=True):
            for a in standings(world)[::13]:
                for b in list(shortest_runs(world, a))[::3]:
                    self.check_rounds(world, a, b)

    def check_rounds(self, world, a, b):
        found, state = rounds(world, a, b), a
        for together in found:
            self.assertEqual(together, lessening(world, state, b))
            self.assertIn(together, list(choices(world, state)))
            state = after_all(state, together)
        self.assertEqual(state, b)
        self.assertEqual(found == (), a == b)
        self.assertLessEqual(len(found), least(world, a, b))
        self.assertGreaterEqual(len(found), max(work(world, a, b)))
        self.assertIs(rounds_right(world, a, b, found), True)

    def test_no_rounds_are_fewer(self):
        for world in small_worlds(pegged_only=True):
            if world.net.many <= 4 and world.table.many <= 3:
                for a in standings(world)[::5]:
                    for b, many in fewest_rounds(world, a).items():
                        self.assertEqual(len(rounds(world, a, b)), many)

    def test_tracks_against_a_search(self):
        for world in small_worlds(pegged_only=True):
            known = standings(world)
            for a in known[::9]:
                runs = shortest_runs(world, a)
                for b in known[::3]:
                    self.check_tracks(world, a, b, runs.get(b))

    def check_tracks(self, world, a, b, run):
        if run is None:
            self.assertIsNone(tracks(world, a, b))
            self.assertIsNone(rounds(world, a, b))
            return
        found = tracks(world, a, b)
        for some in (run, least_run(world, a, b)):
            for place in range(world.net.many):
                coats = [a[place]] + [coat for v, coat in some if v == place]
                self.assertEqual(found[place], tuple(coats))
                self.assertEqual(found[place][-1], b[place])


class Judge(Case):

    def worlds(self):
        for world in small_worlds():
            if world.net.many in (4, 5) and world.table.many <= 3:
                yield world

    def test_right_rounds(self):
        for world in self.worlds():
            known = standings(world)
            for a in known[:1]:
                for b, run in shortest_runs(world, a).items():
                    parts = tuple((deed,) for deed in run)
                    self.assertIs(rounds_right(world, a, b, parts), True)
                    for other in known[::5]:
                        self.assertIs(rounds_right(world, a, other, parts), other == b)

    def test_bent_rounds(self):
        verdicts = []
        for world in self.worlds():
            for a in standings(world)[::12]:
                for b, run in list(shortest_runs(world, a).items())[::5]:
                    parts = tuple((deed,) for deed in run)
                    if world.pegs:
                        parts = rounds(world, a, b)
                    for other in bent(world, parts):
                        wanted = right_by_the_words(world, a, b, other)
                        self.assertIs(rounds_right(world, a, b, other), wanted)
                        verdicts.append(wanted)
        self.assertGreater(verdicts.count(True), 100)
        self.assertGreater(verdicts.count(False), 1000)

    def test_by_hand(self):
        a, b = (0, 1, 0, 1), (0, 2, 0, 2)
        right = (
            (((1, 2), (3, 2)),), (((1, 2),), ((3, 2),)), (((3, 2),), ((1, 2),)),
            (((2, 2),), ((2, 0),), ((1, 2), (3, 2))), (((1, 2), (3, 2)), ((2, 1),), ((2, 0),)))
        wrong = (
            (), ((),), (((1, 2), (3, 2)), ()), ((), ((1, 2), (3, 2))), (((3, 2), (1, 2)),), (((1, 2), (1, 2), (3, 2)),),
            (((1, 2),),), (((1, 2), (3, 2)),) * 2, ((1, 2), (3, 2)), (((1, 2), (2, 0), (3, 2)),),
            (((1, 2), (2, 1), (3, 2)), ((2, 0),)), (((1, 2), (3, 3)),), (((1, 2), (4, 2)),), (((-3, 2), (-1, 2)),),
            (((0, 0), (1, 2), (3, 2)),), (((0, 2),), ((0, 0),), ((1, 2), (3, 2))), (((1, 1), (3, 2)), ((1, 2),)))
        for world in (SQUARE, FREE):
            for parts in right:
                self.assertIs(rounds_right(world, a, b, parts), True)
            for parts in wrong[:-2]:
                self.assertIs(rounds_right(world, a, b, parts), False)
            self.assertIs(rounds_right(world, a, a, ()), True)
            # A deed must change the coat.
            self.assertIs(rounds_right(world, a, b, wrong[-1]), False)
        # Place 0 may change where it is no peg.
        self.assertIs(rounds_right(SQUARE, a, b, wrong[-2]), False)
        self.assertIs(rounds_right(FREE, a, b, wrong[-2]), True)

    def test_threaded_places(self):
        # Both deeds are let at the beginning, but the places are threaded.
        world = made_world(all_coats(2), line_net(3), pegs=(0,))
        self.assertIs(rounds_right(world, (0, 0, 0), (0, 1, 1), (((1, 1), (2, 1)),)), False)
        self.assertIs(rounds_right(world, (0, 0, 0), (0, 1, 1), (((1, 1),), ((2, 1),))), True)
        self.assertIs(rounds_right(world, (0, 0, 0), (0, 0, 1), (((2, 1),),)), True)

    def test_many_rounds_and_deeds(self):
        back_and_forth = (((1, 2), (3, 2)), ((1, 1), (3, 1))) * 3000
        a = (0, 1, 0, 1)
        self.assertIs(rounds_right(SQUARE, a, a, back_and_forth), True)
        self.assertIs(rounds_right(SQUARE, a, (0, 2, 0, 2), back_and_forth + back_and_forth[:1]), True)
        self.assertIs(rounds_right(SQUARE, a, a, back_and_forth + back_and_forth[:1]), False)
        world = made_world(unlike_coats(3), star_net(24), pegs=(0,))
        leaves = tuple((place, 2) for place in range(1, 24))
        self.assertIs(rounds_right(world, (0,) + (1,) * 23, (0,) + (2,) * 23, (leaves,)), True)
        self.assertIs(rounds_right(world, (0,) + (1,) * 23, (0,) + (2,) * 23, (leaves[::-1],)), False)
        self.assertIs(rounds_right(world, (0,) + (1,) * 23, (0,) + (2,) * 23, (((1, 2),) * 30000,)), False)

    def test_odd_things(self):
        a, b, parts = (0, 1, 0, 1), (0, 2, 0, 2), (((1, 2), (3, 2)),)
        deep = (nested(100), (nested(99),), (0,) * 10 ** 5, (((0, 0),) * 30000,), ((),) * 10 ** 5)
        for world in (SQUARE, FREE):
            for thing in ODD_THINGS + deep:
                self.assertIs(rounds_right(world, thing, b, parts), False)
                self.assertIs(rounds_right(world, a, thing, parts), False)
                self.assertIs(rounds_right(world, a, b, thing), False)
            odd = (None, "12", 1, (), (1,), ("1", 2), (1, "2"), (1, None), (None, 2), (1, 2, 0), ((1,), 2), nested(97))
            for deed in odd + ((10 ** 30, 1), (1, 10 ** 30), (-10 ** 30, -1)):
                self.assertIs(rounds_right(world, a, b, ((deed,),)), False)
                self.assertIs(rounds_right(world, a, b, parts + ((deed,),)), False)
                self.assertIs(rounds_right(world, a, b, (((1, 2), deed, (3, 2)),)), False)
            for part in (None, "", "12", 5, (), (1, 2), nested(98)):
                self.assertIs(rounds_right(world, a, b, parts + (part,)), False)
                self.assertIs(rounds_right(world, a, b, (part,) + parts), False)
            for bad in ((0, 1, 0), (0, True, 0, True), (0, 1, 0, 1, 0), (0, 1, 0, 3), (0, 1, 0, 0), (0, 1, 0, -2)):
                self.assertIs(rounds_right(world, bad, b, parts), False)
                self.assertIs(rounds_right(world, a, bad, parts), False)
                self.assertIs(rounds_right(world, bad, bad, ()), False)


def bent(world, parts):
    """Rounds near some rounds: one deed changed, left out, doubled, or moved to another round."""
    yield parts
    yield parts[::-1]
    yield parts + ((),)
    for at, together in enumerate(parts):
        yield parts[:at] + parts[at + 1:]
        yield parts[:at] + (together, together) + parts[at + 1:]
        yield parts[:at] + (together[::-1],) + parts[at + 1:]
        yield parts[:at] + (together + parts[(at + 1) % len(parts)],) + parts[at + 1:]
        for which, (place, coat) in enumerate(together):
            left, right = together[:which], together[which + 1:]
            yield parts[:at] + (left + right,) + parts[at + 1:]
            yield parts[:at] + (left + (together[which],) * 2 + right,) + parts[at + 1:]
            for other in ((place, (coat + 1) % world.table.many), ((place + 1) % world.net.many, coat)):
                yield parts[:at] + (left + (other,) + right,) + parts[at + 1:]
            alone = ((left + right,) if left + right else ())
            yield parts[:at] + (((place, coat),),) + alone + parts[at + 1:]
            for to in range(len(parts)):
                if to != at:
                    moved = [list(part) for part in parts]
                    moved[to] = sorted(moved[to] + [moved[at].pop(which)])
                    yield tuple(tuple(part) for part in moved if part)


if __name__ == "__main__":
    unittest.main()
