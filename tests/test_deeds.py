"""Deeds, runs and traces: [7], [8], [9]."""

import unittest

from betweencoats.errors import (
    BadCoat, BadDeed, BadPlace, BadSize, BadStone, NotAmong, Pegged)
from betweencoats.lets import done, lets
from betweencoats.netshapes import line_net, ring_net, star_net
from betweencoats.runs import run_back, run_end, run_right, states_of
from betweencoats.tables import made_table
from betweencoats.tableshapes import all_coats, line_coats, unlike_coats
from betweencoats.traces import trace
from betweencoats.worlds import made_world
from tests.plainly import (
    ODD_THINGS, Case, after, deeds, is_right, neighbours, nested, rested, shortest_runs, small_worlds, standings)

SQUARE = made_world(unlike_coats(3), ring_net(4), pegs=(0,))


def wander(world, standing, many):
    """A run that does at each step another one of the deeds that are let."""
    run = []
    for step in range(many):
        choice = deeds(world, standing)
        if not choice:
            break
        deed = choice[(step * step + 3 * step) // 2 % len(choice)]
        run.append(deed)
        standing = after(standing, deed)
    return tuple(run)


class Deeds(Case):

    def test_lets_by_hand(self):
        self.assertEqual(lets(SQUARE, (0, 1, 0, 1)), ((1, 2), (2, 2), (3, 2)))
        self.assertEqual(lets(world=SQUARE, standing=(0, 1, 2, 1)), ((2, 0),))
        free = made_world(unlike_coats(3), ring_net(4))
        self.assertEqual(lets(free, (0, 1, 0, 1)), ((0, 2), (1, 2), (2, 2), (3, 2)))
        self.assertEqual(lets(free, (0, 1, 2, 1)), ((0, 2), (2, 0)))
        self.assertEqual(lets(made_world(unlike_coats(3), ring_net(3)), (0, 1, 2)), ())

    def test_all_pegged(self):
        self.assertEqual(lets(made_world(all_coats(3), line_net(2), pegs=(0, 1)), (0, 0)), ())

    def test_no_neighbours(self):
        self.assertEqual(lets(made_world(all_coats(3), line_net(1)), (0,)), ())

    def test_coats_beside_themselves(self):
        self.assertEqual(lets(made_world(all_coats(2), line_net(3), pegs=(0,)), (0, 0, 0)), ((1, 1), (2, 1)))
        self.assertEqual(lets(made_world(made_table(((0,),)), line_net(3)), (0, 0, 0)), ())

    def test_lets_by_their_words(self):
        for world in small_worlds():
            for standing in standings(world):
                self.assertEqual(lets(world, standing), tuple(deeds(world, standing)))

    def test_done_by_its_words(self):
        for world in small_worlds():
            if world.net.many <= 4:
                for standing in standings(world):
                    self.check_done(world, standing)

    def check_done(self, world, standing):
        known = deeds(world, standing)
        for place in range(-1, world.net.many + 1):
            for coat in range(-1, world.table.many + 1):
                if (place, coat) in known:
                    other = done(world, standing, place, coat)
                    self.assertEqual(other, after(standing, (place, coat)))
                    self.assertEqual(done(world, other, place, standing[place]), standing)
                else:
                    error, what = self.fault(world, standing, place, coat)
                    self.refuses(error, what, done, world, standing, place, coat)

    def fault(self, world, standing, place, coat):
        if place not in range(world.net.many):
            return BadPlace, place
        if place in world.pegs:
            return Pegged, place
        if len({standing[other] for other in neighbours(world.net, place)}) != 1:
            return NotAmong, place
        return BadCoat, coat

    def test_done_errors(self):
        self.assertEqual(done(world=SQUARE, standing=(0, 1, 0, 1), place=1, coat=2), (0, 2, 0, 1))
        self.refuses(BadSize, 3, done, SQUARE, (0, 1, 0), 9, 9)
        self.refuses(BadStone, 1, done, SQUARE, (0, 0, 0, 1), 9, 9)
        self.refuses(BadPlace, 4, done, SQUARE, (0, 1, 0, 1), 4, 9)
        self.refuses(BadPlace, -1, done, SQUARE, (0, 1, 0, 1), -1, 9)
        self.refuses(BadPlace, -4, done, SQUARE, (0, 1, 0, 1), -4, 2)
        self.refuses(Pegged, 0, done, SQUARE, (0, 1, 2, 1), 0, 9)
        self.refuses(Pegged, 0, done, SQUARE, (0, 1, 0, 2), 0, 1)
        self.refuses(NotAmong, 2, done, SQUARE, (0, 1, 0, 2), 2, 9)
        self.refuses(NotAmong, 2, done, SQUARE, (0, 1, 0, 2), 2, 0)
        self.refuses(NotAmong, 0, done, made_world(all_coats(2), line_net(1)), (0,), 0, 1)
        self.refuses(Pegged, 0, done, made_world(all_coats(2), line_net(1), pegs=(0,)), (0,), 0, 1)
        self.refuses(BadCoat, 3, done, SQUARE, (0, 1, 0, 1), 1, 3)
        self.refuses(BadCoat, -1, done, SQUARE, (0, 1, 0, 1), 1, -1)
        self.refuses(BadCoat, 0, done, SQUARE, (0, 1, 0, 1), 1, 0)
        self.refuses(BadCoat, 1, done, SQUARE, (0, 1, 0, 1), 1, 1)


class Runs(Case):

    def test_by_hand(self):
        run = ((1, 2), (3, 2), (2, 1))
        states = ((0, 1, 0, 1), (0, 2, 0, 1), (0, 2, 0, 2), (0, 2, 1, 2))
        self.assertEqual(run_end(world=SQUARE, standing=states[0], run=run), states[3])
        self.assertEqual(states_of(world=SQUARE, standing=states[0], run=run), states)
        self.assertEqual(run_back(world=SQUARE, standing=states[0], run=run), ((2, 0), (3, 1), (1, 1)))
        self.assertIs(run_right(world=SQUARE, a=states[0], b=states[3], run=run), True)

    def test_no_deeds(self):
        standing = (0, 1, 0, 1)
        self.assertEqual(run_end(SQUARE, standing, ()), standing)
        self.assertEqual(states_of(SQUARE, standing, ()), (standing,))
        self.assertEqual(run_back(SQUARE, standing, ()), ())
        self.assertIs(run_right(SQUARE, standing, standing, ()), True)
        self.assertIs(run_right(SQUARE, standing, (0, 2, 0, 2), ()), False)
        self.assertEqual(trace(SQUARE, standing, ()), ((0,), (1,), (0,), (1,)))

    def test_600_deeds(self):
        standing, run = (0, 1, 0, 1), ((1, 2), (1, 1)) * 300
        self.assertEqual(run_end(SQUARE, standing, run), standing)
        self.assertEqual(len(states_of(SQUARE, standing, run)), 601)
        self.assertEqual(run_back(SQUARE, standing, run), run)
        self.assertIs(run_right(SQUARE, standing, standing, run), True)
        self.assertEqual(trace(SQUARE, standing, run), ((0,), (1,), (0,), (1,)))

    def test_601_deeds(self):
        standing, run = (0, 1, 0, 1), ((1, 2), (1, 1)) * 300 + ((1, 2),)
        for call in (run_end, states_of, run_back, trace):
            self.refuses(BadSize, 601, call, SQUARE, standing, run)
            self.refuses(BadSize, 700, call, SQUARE, standing, ((0, 0),) * 700)
            self.refuses(BadStone, 1, call, SQUARE, (0, 0, 0, 1), run)
        self.assertIs(run_right(SQUARE, standing, (0, 2, 0, 1), run), False)
        self.assertIs(run_right(SQUARE, standing, (0, 2, 0, 1), run[:-2]), True)

    def test_bad_deeds(self):
        standing = (0, 1, 0, 1)
        bad = ((0, 1), (1, 0), (1, 1), (1, 3), (1, -1), (4, 0), (-1, 2), (-3, 2), (10 ** 20, 0), (1, 10 ** 20))
        for call in (run_end, states_of, run_back, trace):
            for deed in bad:
                self.refuses(BadDeed, 0, call, SQUARE, standing, (deed,))
                self.refuses(BadDeed, 2, call, SQUARE, standing, ((1, 2), (1, 1), deed, (0, 0)))
            # 2 has neighbours of different coats after the first deed.
            self.refuses(BadDeed, 1, call, SQUARE, standing, ((1, 2), (2, 0)))
            # The second deed would change nothing any more.
            self.refuses(BadDeed, 1, call, SQUARE, standing, ((1, 2), (1, 2)))
            self.refuses(BadDeed, 599, call, SQUARE, standing, ((1, 2), (1, 1)) * 299 + ((1, 2), (1, 2)))
        for deed in bad:
            self.assertIs(run_right(SQUARE, standing, standing, (deed,)), False)
            self.assertIs(run_right(SQUARE, standing, standing, ((1, 2), (1, 1), deed)), False)

    def test_runs_by_their_words(self):
        for world in small_worlds():
            for standing in standings(world)[::7]:
                run = wander(world, standing, 25)
                states = [standing]
                for deed in run:
                    states.append(after(states[-1], deed))
                self.assertEqual(states_of(world, standing, run), tuple(states))
                self.assertEqual(len(states), len(run) + 1)
                self.assertEqual(run_end(world, standing, run), states[-1])
                other = run_back(world, standing, run)
                self.assertEqual([deed[0] for deed in other], [deed[0] for deed in run][::-1])
                self.assertEqual(states_of(world, states[-1], other), tuple(states[::-1]))
                self.assertEqual(run_back(world, states[-1], other), run)

    def test_run_right(self):
        for world in small_worlds():
            if world.net.many == 4:
                first = (standings(world) or [None])[0]
                if first is not None:
                    self.check_judge(world, first)

    def check_judge(self, world, first):
        for end, run in shortest_runs(world, first).items():
            self.assertIs(run_right(world, first, end, run), True)
            for other in standings(world)[::5]:
                self.assertIs(run_right(world, first, other, run), other == end)
            if run:
                self.assertIs(run_right(world, first, end, run[:-1]), False)
                self.assertIs(run_right(world, first, end, run + ((0, -1),)), False)

    def test_run_right_of_odd_things(self):
        a, b, run = (0, 1, 0, 1), (0, 2, 0, 1), ((1, 2),)
        self.assertIs(run_right(SQUARE, a, b, run), True)
        deep = (nested(100), (nested(99),), (0,) * 10 ** 5, ((0, 0),) * 30000)
        for thing in ODD_THINGS + deep:
            self.assertIs(run_right(SQUARE, thing, b, run), False)
            self.assertIs(run_right(SQUARE, a, thing, run), False)
            self.assertIs(run_right(SQUARE, a, b, thing), False)
            self.assertIs(run_right(SQUARE, thing, thing, ()), False)
        parts = ((1, 2, 0), (1,), (), (1, "2"), ("1", 2), (None, 2), (1, (2,)), "12", 1, None, nested(98))
        for part in parts:
            self.assertIs(run_right(SQUARE, a, b, (part,)), False)
            self.assertIs(run_right(SQUARE, a, b, run + (part,)), False)
            self.assertIs(run_right(SQUARE, a, b, (part,) + run), False)
        self.assertIs(run_right(SQUARE, (0, 0, 0, 1), b, run), False)
        self.assertIs(run_right(SQUARE, a, (0, 2, 2, 1), run), False)


class Traces(Case):

    def test_by_hand(self):
        world = made_world(unlike_coats(3), star_net(4), pegs=(1,))
        self.assertEqual(trace(world, (0, 1, 1, 1), ((0, 2), (3, 0))), ((0, 1, 2), (1,), (1,), (1, 2, 0)))
        self.assertEqual(trace(world, (0, 1, 1, 1), ((0, 2), (0, 0))), ((0,), (1,), (1,), (1,)))
        world = made_world(all_coats(2), line_net(4), pegs=(0,))
        self.assertEqual(
            trace(world=world, standing=(0, 0, 0, 0), run=((1, 1), (3, 1), (2, 1), (3, 0))),
            ((0,), (0, 0, 1), (0, 1, 1), (0, 0, 1, 1, 0)))
        world = made_world(line_coats(4), line_net(2))
        self.assertEqual(trace(world, (0, 1), ((0, 2), (1, 3))), ((0, 1, 2), (1, 2, 3)))

    def test_by_its_words(self):
        for world in small_worlds():
            for standing in standings(world)[::11]:
                run = wander(world, standing, 20)
                self.check_trace(world, standing, run)

    def check_trace(self, world, standing, run):
        rows, state = [(coat,) for coat in standing], standing
        for place, coat in run:
            around = state[neighbours(world.net, place)[0]]
            rows[place] = rested(rows[place] + (around, coat))
            state = after(state, (place, coat))
        found = trace(world, standing, run)
        self.assertEqual(found, tuple(rows))
        self.assertTrue(is_right(world, standing, state, found))

    def test_long_trace(self):
        # Round and round a table: the rows grow as long as runs can make them.
        world = made_world(unlike_coats(3), line_net(2))
        run = tuple((step % 2, (step + 2) % 3) for step in range(600))
        found = trace(world, (0, 1), run)
        self.assertEqual([len(row) for row in found], [601, 601])
        self.assertEqual(found[0], tuple(at % 3 for at in range(601)))
        self.assertEqual(found[1], tuple((at + 1) % 3 for at in range(601)))


if __name__ == "__main__":
    unittest.main()
