"""Never papers: [40]."""

import itertools
import unittest

from betweencoats.apart import uppers
from betweencoats.bars import bars
from betweencoats.errors import BadSize, BadStone, NoPeg
from betweencoats.keys import key
from betweencoats.never import never_paper
from betweencoats.neverjudge import never_right
from betweencoats.nets import made_net
from betweencoats.netshapes import line_net, ring_net, star_net
from betweencoats.same import come
from betweencoats.tableshapes import all_coats, unlike_coats
from betweencoats.worlds import made_world
from tests.plainly import (
    ODD_THINGS, Case, frozen_places, has_reason, neighbours, nested, rested, shortest_runs, small_worlds, standings,
    straight_ring_worlds)

TRIANGLE = made_world(unlike_coats(3), ring_net(3), pegs=(0,))
HEXAGON = made_world(unlike_coats(3), ring_net(6), pegs=(2,))


def walk_up(world, place):
    upper, walk = uppers(world.net, world.base), [place]
    while walk[-1] != world.base:
        walk.append(upper[walk[-1]])
    return tuple(walk)


def paper_by_the_words(world, a, b):
    """The paper for two standings of which the second one does not come of the first one."""
    if a[world.base] != b[world.base]:
        return "stand", (world.base,), (world.base,)
    upper = uppers(world.net, world.base)
    spare = [(x, y) for x, y in world.net.threads if upper[x] != y and upper[y] != x]
    for (x, y), one, two in zip(spare, key(world, a)[2], key(world, b)[2]):
        if one != two:
            return "round", walk_up(world, x)[::-1] + walk_up(world, y)
    return "stand", frozen_places(world, a), walk_up(world, bars(world, a, b)[0])[::-1]


def right_by_the_words(world, a, b, paper):
    """Whether a paper, built from tuples of numbers behind its name, is right."""
    walk = paper[-1]
    if not 1 <= len(walk) <= 200 or walk[0] != world.base:
        return False
    if any(walk[at] not in neighbours(world.net, walk[at - 1]) for at in range(1, len(walk))):
        return False
    if paper[0] == "round" and (len(paper) != 2 or walk[-1] != world.base):
        return False
    if paper[0] == "stand":
        places = paper[1]
        if not places or list(places) != sorted(set(places)) or not set(places) <= set(range(world.net.many)):
            return False
        if walk[-1] not in places or not all(has_reason(world, a, places, place) for place in places):
            return False
    return rested(tuple(a[v] for v in walk)) != rested(tuple(b[v] for v in walk))


def near_papers(world, paper):
    """Papers with one number changed, taken out or put in, and of the other kind."""
    for part in range(1, len(paper)):
        row = paper[part]
        for at in range(len(row) + 1):
            for place in range(-1, world.net.many + 1):
                for many in (0, 1):
                    yield paper[:part] + (row[:at] + (place,) + row[at + many:],) + paper[part + 1:]
            yield paper[:part] + (row[:at] + row[at + 1:],) + paper[part + 1:]
        yield paper[:part] + (row[::-1],) + paper[part + 1:]
        yield paper[:part] + ((),) + paper[part + 1:]
    yield "round", paper[-1]
    yield "stand", paper[-1][-1:], paper[-1]
    yield "stand", tuple(sorted(set(paper[-1]))), paper[-1]
    yield "stand", tuple(range(world.net.many)), paper[-1]


class NeverPapers(Case):

    def test_example(self):
        self.assertEqual(never_paper(TRIANGLE, (0, 1, 2), (0, 2, 1)), ("round", (0, 1, 2, 0)))
        self.assertIs(never_right(TRIANGLE, (0, 1, 2), (0, 2, 1), ("round", (0, 1, 2, 0))), True)

    def test_each_kind(self):
        self.assertEqual(never_paper(world=TRIANGLE, a=(0, 1, 2), b=(1, 2, 0)), ("stand", (0,), (0,)))
        self.assertEqual(never_paper(HEXAGON, (0, 1, 2, 0, 1, 2), (0, 1, 2, 1, 0, 1)), ("round", (2, 3, 4, 5, 0, 1, 2)))
        world = made_world(all_coats(2), line_net(4), pegs=(0, 3))
        self.assertEqual(never_paper(world, (0, 0, 0, 0), (0, 1, 1, 0)), ("stand", (0, 3), (0, 1, 2, 3)))
        # Frozen, but for the pegs: a ring of three with a tail, and the peg at its end.
        world = made_world(unlike_coats(3), made_net(5, ((0, 1), (1, 2), (2, 3), (2, 4), (3, 4))), pegs=(0,))
        self.assertEqual(never_paper(world, (0, 1, 0, 1, 2), (0, 1, 2, 0, 1)), ("stand", (0, 2, 3, 4), (0, 1, 2)))
        self.assertEqual(never_paper(world, (0, 1, 0, 1, 2), (0, 1, 0, 2, 1)), ("round", (0, 1, 2, 3, 4, 2, 1, 0)))

    def test_none_just_where_it_comes(self):
        told = {}
        for world in list(small_worlds(pegged_only=True)) + list(straight_ring_worlds()):
            known = standings(world)
            for a in known[::max(8, len(known) // 4)]:
                runs = shortest_runs(world, a)
                for b in known[::max(1, len(known) // 40)]:
                    paper = never_paper(world, a, b)
                    if b in runs:
                        self.assertIsNone(paper)
                    else:
                        self.assertEqual(paper, paper_by_the_words(world, a, b))
                        self.assertIs(never_right(world, a, b, paper), True)
                        kind = paper[0], len(paper[-1]) > 1
                        told[kind] = told.get(kind, 0) + 1
        self.assertEqual(set(told), {("stand", False), ("stand", True), ("round", True)})
        self.assertGreater(min(told.values()), 100)

    def test_errors(self):
        free = made_world(unlike_coats(3), ring_net(3))
        self.refuses(NoPeg, 0, never_paper, free, (), ())
        self.refuses(NoPeg, 0, never_paper, free, (0, 1, 2), (0, 2, 1))
        self.refuses(BadSize, 2, never_paper, TRIANGLE, (0, 1), ())
        self.refuses(BadStone, 1, never_paper, TRIANGLE, (0, 0, 1), ())
        self.refuses(BadSize, 0, never_paper, TRIANGLE, (0, 1, 2), ())
        self.refuses(BadStone, 2, never_paper, TRIANGLE, (0, 1, 2), (0, 1, 1))

    def test_large(self):
        a, b = (0, 1, 2) * 8, (0, 2, 1) * 8
        for peg in (0, 7, 23):
            world = made_world(unlike_coats(3), ring_net(24), pegs=(peg,))
            for turn in range(3):
                goal = b[turn:] + b[:turn]
                paper = never_paper(world, a, goal)
                self.assertIs(never_right(world, a, goal, paper), True)
                self.assertEqual(paper[0], "round" if goal[peg] == a[peg] else "stand")
                self.assertEqual(paper, paper_by_the_words(world, a, goal))
        world = made_world(all_coats(2), line_net(24), pegs=(0, 23))
        paper = never_paper(world, (0,) * 24, (0,) + (1,) * 22 + (0,))
        self.assertEqual(paper, ("stand", (0, 23), tuple(range(24))))


class NeverRight(Case):

    def test_near_papers(self):
        told = set()
        for world in list(small_worlds(pegged_only=True))[::3] + list(straight_ring_worlds())[::4]:
            known = standings(world)
            for a, b in itertools.product(known[::31], known[::17]):
                paper = never_paper(world, a, b)
                for near in near_papers(world, paper or ("stand", world.pegs, (world.base,))):
                    wanted = right_by_the_words(world, a, b, near)
                    self.assertIs(never_right(world, a, b, near), wanted)
                    self.assertFalse(wanted and paper is None)
                    told.add((near[0], wanted))
        self.assertEqual(told, {("round", False), ("round", True), ("stand", False), ("stand", True)})

    def test_no_paper_is_right_where_it_comes(self):
        # All walks of few places, with all sets that hold themselves.
        worlds = (TRIANGLE, made_world(unlike_coats(3), ring_net(4), pegs=(0,)),
                  made_world(all_coats(2), line_net(3), pegs=(0, 2)), made_world(all_coats(2), star_net(4), pegs=(1, 2)))
        for world in worlds:
            known = standings(world)
            walks = [(world.base,)]
            for walk in walks:
                if len(walk) < 6:
                    walks.extend(walk + (place,) for place in world.net.near[walk[-1]])
            for a, b in itertools.product(known[::3], known[::2]):
                sets = [places for many in range(1, world.net.many + 1)
                        for places in itertools.combinations(range(world.net.many), many)]
                papers = [("round", walk) for walk in walks] + [
                    ("stand", places, walk) for places in sets for walk in walks]
                right = [paper for paper in papers if never_right(world, a, b, paper)]
                self.assertEqual(right, [paper for paper in papers if right_by_the_words(world, a, b, paper)])
                self.assertIs(not right, come(world, a, b))

    def test_walks_of_200_places(self):
        a, b = (0, 1, 2), (0, 2, 1)
        for many, wanted in ((4, True), (100, True), (196, True), (198, True), (200, False), (300, False)):
            # Round once, and then to and fro.
            walk = (0, 1, 2, 0) + (1, 0) * ((many - 4) // 2)
            self.assertIs(never_right(TRIANGLE, a, b, ("round", walk)), wanted or many == 200)
            self.assertIs(never_right(TRIANGLE, a, b, ("stand", (0, 1, 2), walk)), wanted or many == 200)
        walk = (0, 1, 2) * 66 + (0, 1)
        self.assertEqual(len(walk), 200)
        self.assertIs(never_right(TRIANGLE, a, b, ("stand", (0, 1, 2), walk)), True)
        self.assertIs(never_right(TRIANGLE, a, b, ("stand", (0, 1, 2), walk + (0,))), False)
        self.assertIs(never_right(TRIANGLE, a, b, ("round", (0, 1, 2) * 66 + (0,))), True)
        self.assertIs(never_right(TRIANGLE, a, b, ("round", (0, 1, 2) * 67)), False)
        self.assertIs(never_right(TRIANGLE, a, b, ("round", (0, 1, 2) * 67 + (0,))), False)

    def test_papers_of_the_other_kind(self):
        a, b = (0, 1, 2), (0, 2, 1)
        walk = (0, 1, 2, 0)
        self.assertIs(never_right(world=TRIANGLE, a=a, b=b, paper=("round", walk)), True)
        self.assertIs(never_right(TRIANGLE, a, b, ("stand", (0,), walk)), True)
        self.assertIs(never_right(TRIANGLE, a, b, ("stand", (0, 1, 2), (0, 1))), True)
        for paper in (("stand", walk), ("round", (0,), walk), ("round", (0, 1, 2), walk), ("stand", (), walk),
                      ("stand", (0, 0), walk), ("stand", (2, 1, 0), walk), ("stand", (1,), (0, 1)), ("stand", (0, 1), (0, 1)),
                      ("stand", (0, 1, 2, 3), walk), ("stand", (-1, 0), walk), ("Round", walk), ("", walk), ("round",),
                      ("stand",), (walk,), walk, ("stand", (0,), walk, walk), ("round", walk, walk), (None, walk),
                      (("round",), walk), (0, walk), ("stand", walk, (0,)), ("round", (0, 1, 2)), ("round", (1, 2, 0, 1)),
                      ("round", (0, 0)), ("round", (0,)), ("round", ()), ("round", (0, 1, 3, 0)), ("round", (0, -1, 0))):
            self.assertIs(never_right(TRIANGLE, a, b, paper), False)

    def test_one_place(self):
        # A net of one place: the peg is the base, and nothing can be walked.
        world = made_world(all_coats(3), line_net(1), pegs=(0,))
        self.assertEqual(never_paper(world, (0,), (2,)), ("stand", (0,), (0,)))
        self.assertIs(never_right(world, (0,), (2,), ("round", (0,))), True)
        self.assertIs(never_right(world, (0,), (2,), ("round", (0, 0))), False)
        self.assertIs(never_right(world, (0,), (0,), ("round", (0,))), False)

    def test_odd_things(self):
        a, b = (0, 1, 2), (0, 2, 1)
        paper = ("round", (0, 1, 2, 0))
        deep = (nested(100), (nested(99),) * 2, ("round", nested(98)), ("stand", nested(98), (0,)), "round", ("round", "0120"),
                ("stand", "0", (0,)), ("stand", (0,), None), ("round", None), ("round", (0, "1", 2, 0)), ("round", (0, None, 0)),
                ("round", (0, 1, 2, 0) * 25000), ("stand", tuple(range(10 ** 5)), (0,)), ("round", (0, True, 2, 0)),
                ("stand", (False,), (0,)), ("stand", ((0,),), (0,)), ("round", ((0, 1, 2, 0),)), (10 ** 30, -1), ((), ()))
        for thing in ODD_THINGS + deep:
            self.assertIs(never_right(TRIANGLE, a, b, thing), False)
            self.assertIs(never_right(TRIANGLE, thing, b, paper), False)
            self.assertIs(never_right(TRIANGLE, a, thing, paper), False)

    def test_bad_standings(self):
        paper = ("round", (0, 1, 2, 0))
        a, b = (0, 1, 2), (0, 2, 1)
        self.assertIs(never_right(TRIANGLE, a, b, paper), True)
        for bad in ((0, 1), (0, 1, 2, 0), (0, 0, 1), (0, 1, 3), (-1, 1, 2), (), (0, 1, 2.0)[:2]):
            self.assertIs(never_right(TRIANGLE, bad, b, paper), False)
            self.assertIs(never_right(TRIANGLE, a, bad, paper), False)

    def test_a_free_world(self):
        free = made_world(unlike_coats(3), ring_net(3))
        for paper in (("round", (0, 1, 2, 0)), ("stand", (0, 1, 2), (0, 1)), ("stand", (0,), (0,)), None):
            self.assertIs(never_right(free, (0, 1, 2), (0, 2, 1), paper), False)
            self.assertIs(never_right(free, (0, 1, 2), (1, 2, 0), paper), False)


if __name__ == "__main__":
    unittest.main()
