"""Who comes, work, and least runs: [14]."""

import unittest

from betweencoats.leastruns import least_run, lessening
from betweencoats.linkjudge import link_right
from betweencoats.links import link
from betweencoats.netshapes import grid_net, line_net, star_net
from betweencoats.runs import run_end, run_right
from betweencoats.same import come
from betweencoats.tableshapes import all_coats, unlike_coats
from betweencoats.work import least, work
from betweencoats.worlds import made_world
from tests.plainly import (
    Case, after, counted, deeds, fewest, frozen_places, shortest_runs, small_worlds, standings,
    straight_ring_worlds)

STAR = made_world(unlike_coats(3), star_net(4), pegs=(1,))
LINE = made_world(all_coats(2), line_net(4), pegs=(0,))


def lessening_by_search(world, a, far):
    """The deeds after which one deed fewer is left; far tells the fewest deeds from each standing on."""
    return tuple(deed for deed in deeds(world, a) if far[after(a, deed)] == far[a] - 1)


def least_run_by_search(world, a, far):
    """The run that takes at each step the first of these deeds."""
    run = ()
    while far[a] > 0:
        deed = lessening_by_search(world, a, far)[0]
        run, a = run + (deed,), after(a, deed)
    return run


class Examples(Case):

    def test_star(self):
        a, b = (0, 1, 1, 1), (2, 1, 1, 0)
        self.assertEqual(link(STAR, a, b), ((0, 1, 2), (1,), (1,), (1, 2, 0)))
        self.assertIs(come(world=STAR, a=a, b=b), True)
        self.assertEqual(work(world=STAR, a=a, b=b), (1, 0, 0, 1))
        self.assertEqual(least(world=STAR, a=a, b=b), 2)
        self.assertEqual(lessening(world=STAR, a=a, b=b), ((0, 2),))
        self.assertEqual(least_run(world=STAR, a=a, b=b), ((0, 2), (3, 0)))
        self.assertNotIn((3, 0), deeds(STAR, a))

    def test_line(self):
        a, b = (0, 0, 0, 0), (0, 1, 1, 0)
        self.assertEqual(work(LINE, a, b), (0, 1, 1, 2))
        self.assertEqual(least(LINE, a, b), 4)
        self.assertEqual(lessening(LINE, a, b), ((1, 1), (3, 1)))
        self.assertEqual(least_run(LINE, a, b), ((1, 1), (3, 1), (2, 1), (3, 0)))

    def test_what_does_not_come(self):
        both = made_world(all_coats(2), line_net(4), pegs=(0, 3))
        # A peg whose coat differs, and a link that is not single at the peg 3.
        for world, b in ((LINE, (1, 0, 0, 0)), (both, (0, 0, 0, 1)), (both, (0, 1, 1, 0))):
            self.assertIs(come(world, (0, 0, 0, 0), b), False)
            for call in (work, least, lessening, least_run):
                self.assertIsNone(call(world, (0, 0, 0, 0), b))

    def test_frozen_places_that_are_no_pegs(self):
        # A straight ring never changes; a peg that hangs at it by a thread allows a link to the ring turned.
        some = 0
        for world in straight_ring_worlds():
            known = standings(world)
            for a in known[::3]:
                still = set(frozen_places(world, a)) - set(world.pegs)
                for b in known:
                    rows = link(world, a, b)
                    if rows and all(len(rows[peg]) == 1 for peg in world.pegs):
                        held = any(len(rows[place]) > 1 for place in still)
                        self.assertIs(come(world, a, b), not held)
                        some += held
        self.assertGreater(some, 20)

    def test_a_is_b(self):
        for world in small_worlds(pegged_only=True):
            for a in standings(world)[::3]:
                self.assertIs(come(world, a, a), True)
                self.assertEqual(work(world, a, a), (0,) * world.net.many)
                self.assertEqual(least(world, a, a), 0)
                self.assertEqual(lessening(world, a, a), ())
                self.assertEqual(least_run(world, a, a), ())


class Search(Case):

    def test_against_a_search(self):
        for world in list(small_worlds(pegged_only=True)) + list(straight_ring_worlds()):
            known = standings(world)
            for b in known[::9]:
                runs = shortest_runs(world, b)
                far = {a: len(run) for a, run in runs.items()}
                for a in known[::2]:
                    if a in far:
                        self.check_coming(world, a, b, far)
                        self.assertEqual(work(world, a, b), counted(world, runs[a]))
                    else:
                        self.check_not_coming(world, a, b)

    def check_coming(self, world, a, b, far):
        self.assertIs(come(world, a, b), True)
        self.assertIs(come(world, b, a), True)
        self.assertEqual(least(world, a, b), far[a])
        self.assertEqual(least(world, b, a), far[a])
        self.assertEqual(sum(work(world, a, b)), far[a])
        self.assertEqual(lessening(world, a, b), lessening_by_search(world, a, far))
        run = least_run(world, a, b)
        self.assertEqual(run, least_run_by_search(world, a, far))
        self.assertEqual(len(run), far[a])
        self.assertTrue(run_right(world, a, b, run))
        self.assertEqual(run_end(world, a, run), b)

    def check_not_coming(self, world, a, b):
        self.assertIs(come(world, a, b), False)
        self.assertFalse(link_right(world, a, b, link(world, a, b)))
        for call in (work, least, lessening, least_run):
            self.assertIsNone(call(world, a, b))

    def test_lessening_names_places_once(self):
        for world in small_worlds(pegged_only=True):
            for b in standings(world)[::15]:
                for a in list(shortest_runs(world, b))[::2]:
                    places = [place for place, _ in lessening(world, a, b)]
                    self.assertEqual(places, sorted(set(places)))
                    self.assertEqual(places == [], a == b)

    def test_never_above_the_way_over_a_third(self):
        world = made_world(unlike_coats(3), grid_net(3, 2), pegs=(1,))
        members = sorted(fewest(world, (0, 1, 0, 1, 0, 1)))[::4]
        far = {(a, b): least(world, a, b) for a in members for b in members}
        for a in members:
            for b in members:
                for c in members:
                    self.assertLessEqual(far[a, c], far[a, b] + far[b, c])


class Large(Case):

    def test_line_of_24(self):
        world = made_world(unlike_coats(3), line_net(24), pegs=(0,))
        a = tuple(at % 3 for at in range(24))
        b = tuple(-at % 3 for at in range(24))
        self.assertEqual(work(world, a, b), tuple(range(24)))
        self.assertEqual(least(world, a, b), 276)
        run = least_run(world, a, b)
        self.assertEqual(len(run), 276)
        self.assertTrue(run_right(world, a, b, run))
        self.assertEqual(run[0], lessening(world, a, b)[0])

    def test_grid_of_24(self):
        world = made_world(all_coats(8), grid_net(6, 4), pegs=(7,))
        a = tuple(0 for _ in range(24))
        b = tuple((place // 6 + place % 6) % 2 * (place % 5) for place in range(24))
        self.assertIs(come(world, a, b), True)
        run = least_run(world, a, b)
        self.assertTrue(run_right(world, a, b, run))
        self.assertEqual(counted(world, run), work(world, a, b))


if __name__ == "__main__":
    unittest.main()
