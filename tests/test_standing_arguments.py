"""What a standing argument raises: [3]."""

import itertools
import unittest

from betweencoats.bars import bars, quiet
from betweencoats.bestlinks import best_link
from betweencoats.betweens import between
from betweencoats.classes import class_of
from betweencoats.countruns import between_many, least_runs
from betweencoats.errors import BadSize, BadStone, NoPeg
from betweencoats.filled import filled
from betweencoats.floor import Floor
from betweencoats.forks import forks
from betweencoats.freeleast import free_least
from betweencoats.freelinks import free_come, free_link
from betweencoats.freetrees import tree_come
from betweencoats.frozen import frozen
from betweencoats.keys import key
from betweencoats.leastruns import least_run, lessening
from betweencoats.lets import done, lets
from betweencoats.lifts import is_flat, lifts
from betweencoats.links import link, linked_from
from betweencoats.meets import gathering, meets
from betweencoats.netshapes import line_net, ring_net, star_net
from betweencoats.never import never_paper
from betweencoats.prices import cost
from betweencoats.rounds import rounds
from betweencoats.runs import run_back, run_end, states_of
from betweencoats.same import come
from betweencoats.shown import shown
from betweencoats.standings import is_standing
from betweencoats.tableshapes import unlike_coats
from betweencoats.traces import trace
from betweencoats.tracks import tracks
from betweencoats.treesizes import tree_size
from betweencoats.work import least, work
from betweencoats.worlds import made_world
from tests.plainly import Case, small_worlds

# Each function that takes a standing, with what stands behind it as bad as can be.
TAKERS = (
    (lets, ()), (done, (-9, -9)), (run_end, (((-9, -9),) * 700,)), (states_of, (((-9, -9),) * 700,)),
    (run_back, (((-9, -9),) * 700,)), (trace, (((-9, -9),) * 700,)), (class_of, ()), (frozen, ()),
    (link, ((),)), (linked_from, ((), ())), (lifts, ()), (is_flat, ()), (key, ()), (shown, (-9,)),
    (filled, (((-9, ()),),)), (tree_size, ()), (Floor, ()), (best_link, ((),)),
)
# Those that take two standings behind the world, those of three, and what stands behind.
PAIR_TAKERS = (
    (come, ()), (work, ()), (least, ()), (lessening, ()), (least_run, ()), (rounds, ()), (tracks, ()),
    (least_runs, ()), (between_many, ()), (cost, ((-9,),)), (bars, ()), (quiet, ()), (never_paper, ()),
)
TRIPLE_TAKERS = (between, forks, meets, gathering)
# Those that take two standings of a world without pegs.
FREE_TAKERS = (tree_come, free_come, free_link, free_least, best_link)


class StandingArguments(Case):

    def test_every_function_that_takes_a_standing(self):
        world = made_world(unlike_coats(3), line_net(3), pegs=(1,))
        for call, more in TAKERS:
            self.refuses(BadSize, 0, call, world, (), *more)
            self.refuses(BadSize, 2, call, world, (0, 1), *more)
            self.refuses(BadSize, 4, call, world, (9, 9, 9, 9), *more)
            self.refuses(BadStone, 0, call, world, (-1, 0, 1), *more)
            self.refuses(BadStone, 0, call, world, (3, 3, 3), *more)
            self.refuses(BadStone, 1, call, world, (1, 1, 1), *more)
            self.refuses(BadStone, 2, call, world, (0, 1, 3), *more)

    def test_functions_of_two_standings(self):
        world = made_world(unlike_coats(3), line_net(3), pegs=(1,))
        free = made_world(unlike_coats(3), line_net(3))
        right = (0, 1, 0)
        for call, more in PAIR_TAKERS:
            self.refuses(NoPeg, 0, call, free, right, right, *more)
            self.refuses(NoPeg, 0, call, free, (), (), *more)
            self.check_bad(lambda bad: (call, world, bad, (), *more))
            self.check_bad(lambda bad: (call, world, right, bad, *more))
            # Also where the other one does not come.
            self.check_bad(lambda bad: (call, world, (1, 2, 1), bad, *more))

    def test_functions_of_three_standings(self):
        world = made_world(unlike_coats(3), line_net(3), pegs=(1,))
        free = made_world(unlike_coats(3), line_net(3))
        right, other = (0, 1, 0), (1, 2, 1)
        for call in TRIPLE_TAKERS:
            self.refuses(NoPeg, 0, call, free, right, right, right)
            self.refuses(NoPeg, 0, call, free, (), (), ())
            self.check_bad(lambda bad: (call, world, bad, (), (9, 9, 9)))
            self.check_bad(lambda bad: (call, world, right, bad, (9, 9, 9)))
            self.check_bad(lambda bad: (call, world, right, right, bad))
            self.check_bad(lambda bad: (call, world, right, other, bad))

    def test_functions_of_two_standings_of_a_free_world(self):
        world = made_world(unlike_coats(3), line_net(3))
        right = (0, 1, 0)
        for call in FREE_TAKERS:
            self.check_bad(lambda bad: (call, world, bad, ()))
            self.check_bad(lambda bad: (call, world, right, bad))

    def check_bad(self, asked):
        for error, what, bad in (
                (BadSize, 0, ()), (BadSize, 2, (0, 1)), (BadSize, 4, (9, 9, 9, 9)), (BadStone, 0, (-1, 0, 1)),
                (BadStone, 0, (3, 3, 3)), (BadStone, 1, (1, 1, 1)), (BadStone, 2, (0, 1, 3))):
            self.refuses(error, what, *asked(bad))

    def test_the_second_standing_comes_after_the_first(self):
        world = made_world(unlike_coats(3), line_net(3), pegs=(1,))
        for call, more in ((link, ()), (linked_from, ((),))):
            self.refuses(BadStone, 2, call, world, (0, 1, 1), (), *more)
            self.refuses(BadSize, 0, call, world, (0, 1, 0), (), *more)
            self.refuses(BadSize, 5, call, world, (0, 1, 0), (7, 7, 7, 7, 7), *more)
            self.refuses(BadStone, 1, call, world, (0, 1, 0), (0, 0, 0), *more)

    def test_stones(self):
        world = made_world(unlike_coats(3), line_net(3))
        self.refuses(BadStone, 0, lets, world, (3, 1, 0))
        self.refuses(BadStone, 0, lets, world, (-1, 1, 0))
        self.refuses(BadStone, 1, lets, world, (0, 0, 0))
        self.refuses(BadStone, 1, lets, world, (0, 3, 9))
        self.refuses(BadStone, 2, lets, world, (0, 1, 1))
        self.refuses(BadStone, 2, lets, world, (0, 1, -1))

    def test_bad_stones_are_named_by_the_greater_place(self):
        world = made_world(unlike_coats(3), star_net(4))
        self.refuses(BadStone, 2, lets, world, (0, 1, 0, 1))
        self.refuses(BadStone, 1, lets, world, (0, 0, 0, 0))
        self.refuses(BadStone, 3, lets, world, (1, 0, 2, 1))
        world = made_world(unlike_coats(3), ring_net(4))
        self.refuses(BadStone, 3, lets, world, (0, 1, 2, 0))
        self.refuses(BadStone, 3, lets, world, (0, 1, 2, 2))

    def test_by_the_words(self):
        for world in small_worlds():
            if world.net.many == 4 and world.base == 0:
                for coats in itertools.product(range(-1, world.table.many + 1), repeat=4):
                    self.check_standing(world, coats)

    def check_standing(self, world, coats):
        bad = []
        for v in range(4):
            lesser = [x for x, y in world.net.threads if y == v]
            if coats[v] not in range(world.table.many):
                bad.append(v)
            elif any(coats[x] in range(world.table.many) and coats[v] not in world.table.beside[coats[x]]
                     for x in lesser):
                bad.append(v)
        if bad:
            self.refuses(BadStone, bad[0], lets, world, coats)
        else:
            self.assertTrue(is_standing(world, coats))
            lets(world, coats)


if __name__ == "__main__":
    unittest.main()
