"""Links and their judge: [12]."""

import itertools
import unittest

from betweencoats.errors import BadFirst, BadSize, BadStone, NoPeg
from betweencoats.linkjudge import link_right
from betweencoats.links import link, linked_from
from betweencoats.netshapes import line_net, ring_net, star_net
from betweencoats.tableshapes import all_coats, line_coats, unlike_coats
from betweencoats.traces import trace
from betweencoats.worlds import made_world
from tests.plainly import (
    MIXED, ODD_THINGS, Case, frozen_places, is_link, is_right, nested, rested, shortest_runs, small_worlds, standings)

SQUARE = made_world(unlike_coats(3), ring_net(4), pegs=(0,))
HEXAGON = made_world(unlike_coats(3), ring_net(6))
ENDS = made_world(all_coats(2), line_net(4), pegs=(0, 3))
ENDS_LINK = ((0,), (0, 0, 1), (0, 1, 1), (0, 0, 1, 1, 0))


def firsts(table, start, end, steps):
    """All straight rows of a table of a number of steps from start to end."""
    found = []
    for inner in itertools.product(range(table.many), repeat=max(0, steps - 1)):
        row = (start,) + inner + (end,) if steps else (start,)
        fits = all(row[at + 1] in table.beside[row[at]] for at in range(len(row) - 1))
        if fits and row[-1] == end and rested(row) == row:
            found.append(row)
    return found


def followed(world, a, b, first):
    """The rows that follow from the row at the base, thread by thread, or None if they are no link."""
    rows = {world.base: first}
    while len(rows) < world.net.many:
        for x, y in world.net.threads:
            for v, j in ((x, y), (y, x)):
                if v in rows and j not in rows:
                    rows[j] = rested((a[j],) + rows[v] + (b[j],))
    found = tuple(rows[place] for place in range(world.net.many))
    return found if is_link(world, a, b, found) else None


def bent(row):
    """Rows near a row."""
    yield row + (row[-1], row[-1])
    yield row + row[-1:]
    yield row[:-1]
    yield row[:-1] + ((row[-1] + 1) % 3,)
    yield ((row[0] + 1) % 3,) + row[1:]
    yield row[::-1]
    yield row + (row[-1] + 1, row[-1])
    if len(row) > 2:
        yield row[:1]
        yield row[:1] + ((row[1] + 1) % 3,) + row[2:]


class Examples(Case):

    def test_a(self):
        rows = ((0,), (1, 0, 2), (0,), (1, 0, 2))
        self.assertEqual(link(SQUARE, (0, 1, 0, 1), (0, 2, 0, 2)), rows)
        self.assertIs(link_right(SQUARE, (0, 1, 0, 1), (0, 2, 0, 2), rows), True)
        rows = ((0,), (1,), (0, 1, 2), (1,))
        self.assertEqual(link(world=SQUARE, a=(0, 1, 0, 1), b=(0, 1, 2, 1)), rows)
        self.assertIs(link_right(world=SQUARE, a=(0, 1, 0, 1), b=(0, 1, 2, 1), rows=rows), True)

    def test_b(self):
        world = made_world(unlike_coats(3), ring_net(3), pegs=(0,))
        self.assertIsNone(link(world, (0, 1, 2), (0, 2, 1)))
        self.assertIs(link_right(world, (0, 1, 2), (0, 2, 1), ((0,), (1, 0, 2), (2, 0, 1))), False)

    def test_c(self):
        a, b = (0, 1, 2, 0, 1, 2), (1, 2, 0, 1, 2, 0)
        rows = linked_from(HEXAGON, a, b, (0, 2, 1))
        self.assertEqual(rows, ((0, 2, 1), (1, 0, 2), (2, 1, 0)) * 2)
        self.assertTrue(is_link(HEXAGON, a, b, rows))
        self.assertIs(link_right(HEXAGON, a, b, rows), False)
        for steps in (2, 4, 6, 8):
            for first in firsts(HEXAGON.table, 0, 1, steps):
                rows = linked_from(world=HEXAGON, a=a, b=b, first=first)
                self.assertEqual(rows, followed(HEXAGON, a, b, first))
                self.assertFalse(link_right(HEXAGON, a, b, rows))

    def test_d(self):
        self.assertEqual(link(ENDS, (0, 0, 0, 0), (0, 1, 1, 0)), ENDS_LINK)
        self.assertIs(link_right(ENDS, (0, 0, 0, 0), (0, 1, 1, 0), ENDS_LINK), False)
        loose = made_world(all_coats(2), line_net(4), pegs=(0,))
        self.assertEqual(link(loose, (0, 0, 0, 0), (0, 1, 1, 0)), ENDS_LINK)
        self.assertIs(link_right(loose, (0, 0, 0, 0), (0, 1, 1, 0), ENDS_LINK), True)


class Links(Case):

    def test_unlike_coats_at_the_base(self):
        self.assertIsNone(link(SQUARE, (0, 1, 0, 1), (2, 1, 0, 1)))
        self.assertIsNone(link(made_world(all_coats(2), line_net(1), pegs=(0,)), (0,), (1,)))
        # The base is the least peg; another peg may have another coat.
        self.assertEqual(link(ENDS, (0, 0, 0, 0), (0, 0, 0, 1)), ((0,), (0,), (0,), (0, 0, 1)))
        world = made_world(all_coats(2), line_net(4), pegs=(3,))
        self.assertEqual(link(world, (0, 0, 0, 0), (1, 0, 0, 0)), ((0, 0, 1), (0,), (0,), (0,)))

    def test_one_place(self):
        world = made_world(MIXED, line_net(1), pegs=(0,))
        self.assertEqual(link(world, (4,), (4,)), ((4,),))
        self.assertIsNone(link(world, (4,), (3,)))
        free = made_world(MIXED, line_net(1))
        self.assertEqual(linked_from(free, (1,), (3,), (1, 2, 3)), ((1, 2, 3),))
        self.assertIs(link_right(free, (1,), (3,), ((1, 2, 3),)), False)
        self.assertIs(link_right(free, (1,), (1,), ((1,),)), True)

    def test_errors_of_link(self):
        free = made_world(unlike_coats(3), ring_net(4))
        self.refuses(NoPeg, 0, link, free, (), ())
        self.refuses(NoPeg, 0, link, free, (0, 1, 0, 1), (0, 1, 0, 1))
        self.refuses(BadSize, 3, link, SQUARE, (0, 1, 0), ())
        self.refuses(BadStone, 3, link, SQUARE, (0, 1, 0, 0), ())
        self.refuses(BadSize, 0, link, SQUARE, (0, 1, 0, 1), ())
        self.refuses(BadStone, 2, link, SQUARE, (0, 1, 0, 1), (1, 0, 0, 1))

    def test_links_by_their_words(self):
        for world in small_worlds(pegged_only=True):
            known = standings(world)
            for a, b in itertools.product(known[::9], known[::2]):
                if a[world.base] == b[world.base]:
                    self.assertEqual(link(world, a, b), followed(world, a, b, (a[world.base],)))
                else:
                    self.assertIsNone(link(world, a, b))

    def test_comes_of_exactly_if_right(self):
        for world in small_worlds(pegged_only=True):
            known = standings(world)
            for a in known[::8]:
                runs = shortest_runs(world, a)
                still = set(world.pegs) | set(frozen_places(world, a))
                for b in known:
                    self.check_link(world, a, b, runs.get(b), still)

    def check_link(self, world, a, b, run, still):
        rows = link(world, a, b)
        if run is None:
            self.assertTrue(rows is None or any(len(rows[place]) > 1 for place in still))
            self.assertFalse(link_right(world, a, b, rows))
        else:
            self.assertEqual(rows, trace(world, a, run))
            self.assertTrue(link_right(world, a, b, rows))
            self.assertEqual(sum(len(row) - 1 for row in rows), 2 * len(run))
            for place in range(world.net.many):
                self.assertEqual(2 * sum(deed[0] == place for deed in run), len(rows[place]) - 1)

    def test_what_a_deed_does_to_a_link(self):
        loose = made_world(all_coats(2), line_net(4), pegs=(0,))
        a, b = (0, 0, 0, 0), (0, 1, 1, 0)
        rows = link(loose, a, b)
        self.assertEqual(link(loose, (0, 1, 0, 0), b), rows[:1] + (rested((1, 0) + rows[1]),) + rows[2:])
        self.assertEqual(link(loose, (0, 0, 0, 1), b), rows[:3] + (rested((1, 0) + rows[3]),))

    def test_large_world(self):
        world = made_world(unlike_coats(3), line_net(24), pegs=(0,))
        a = tuple(at % 3 for at in range(24))
        b = tuple(-at % 3 for at in range(24))
        rows = link(world, a, b)
        self.assertEqual([len(row) for row in rows], [2 * at + 1 for at in range(24)])
        self.assertTrue(is_link(world, a, b, rows))
        self.assertTrue(link_right(world, a, b, rows))


class LinkedFrom(Case):

    def test_bad_first(self):
        a, b = (0, 1, 0, 1), (2, 1, 2, 1)
        self.assertEqual(linked_from(SQUARE, a, b, (0, 1, 2)), ((0, 1, 2), (1,), (0, 1, 2), (1,)))
        bad = (
            (), (0,), (2,), (0, 2), (0, 1, 2, 0), (0, 1, 0, 1, 2), (0, 1, 2, 1, 2), (0, 0, 2), (0, 2, 2), (0, 0, 0, 1, 2),
            (0, 3, 2), (0, -1, 2), (0, 10 ** 20, 2), (1, 0, 2), (1, 2, 1), (0, 2, 1), (0, 2, 0), (-1, 1, 2), (0, 1, 3),
            (0, 1, -1), (3, 1, 2), (0, 1, 2, 2, 2), (0, 1, 2, 0, 1), (2, 1, 0), (9, 9, 9), (0,) * 201,
        )
        for first in bad:
            self.refuses(BadFirst, 0, linked_from, SQUARE, a, b, first)

    def test_46_and_48_steps(self):
        ring = made_world(unlike_coats(3), line_net(2))
        first = tuple(at % 3 for at in range(47))
        self.assertEqual(len(linked_from(ring, (0, 1), (1, 2), first)[0]), 47)
        self.assertEqual(linked_from(ring, (0, 1), (1, 2), first), followed(ring, (0, 1), (1, 2), first))
        longer = tuple(at % 3 for at in range(49))
        self.refuses(BadFirst, 0, linked_from, ring, (0, 1), (0, 1), longer)
        self.refuses(BadFirst, 0, linked_from, ring, (0, 1), (2, 1), tuple(at % 3 for at in range(48)))
        self.refuses(BadFirst, 0, linked_from, ring, (0, 1), (2, 1), tuple(at % 3 for at in range(201)))

    def test_errors_come_in_their_order(self):
        for world in (SQUARE, made_world(unlike_coats(3), ring_net(4))):
            self.refuses(BadSize, 1, linked_from, world, (0,), (), ())
            self.refuses(BadStone, 3, linked_from, world, (0, 1, 0, 0), (), ())
            self.refuses(BadSize, 0, linked_from, world, (0, 1, 0, 1), (), ())
            self.refuses(BadStone, 1, linked_from, world, (0, 1, 0, 1), (0, 0, 0, 1), ())
            self.refuses(BadFirst, 0, linked_from, world, (0, 1, 0, 1), (0, 1, 0, 1), ())

    def test_base_of_a_free_world_is_0(self):
        world = made_world(line_coats(4), line_net(3))
        self.assertEqual(linked_from(world, (0, 1, 0), (2, 1, 0), (0, 1, 2)), ((0, 1, 2), (1,), (0,)))
        self.refuses(BadFirst, 0, linked_from, world, (0, 1, 0), (0, 1, 2), (0, 1, 2))
        world = made_world(line_coats(4), line_net(3), pegs=(2,))
        self.assertEqual(linked_from(world, (0, 1, 0), (0, 1, 2), (0, 1, 2)), ((0,), (1,), (0, 1, 2)))
        self.refuses(BadFirst, 0, linked_from, world, (0, 1, 0), (2, 1, 0), (0, 1, 2))

    def test_by_the_words(self):
        some = 0
        for world in small_worlds():
            if world.net.many <= 5 and world.table.many <= 3:
                known = standings(world)
                for a, b in itertools.product(known[::9], known[::5]):
                    for steps in (0, 2, 4):
                        for first in firsts(world.table, a[world.base], b[world.base], steps):
                            rows = linked_from(world, a, b, first)
                            self.assertEqual(rows, followed(world, a, b, first))
                            some += rows is not None
        self.assertGreater(some, 500)

    def test_free_worlds(self):
        # b comes of a exactly if there is a right link, and the trace of a run is the link of its row at the base.
        for world in small_worlds():
            if world.pegs == () and world.net.many <= 4 and world.table.many <= 3:
                known = standings(world)
                for a in known[::5]:
                    runs = shortest_runs(world, a)
                    for b in known:
                        self.check_free(world, a, b, runs.get(b))

    def check_free(self, world, a, b, run):
        if run is None:
            for steps in (0, 2, 4):
                for first in firsts(world.table, a[0], b[0], steps):
                    self.assertFalse(link_right(world, a, b, linked_from(world, a, b, first)))
        else:
            rows = trace(world, a, run)
            self.assertEqual(linked_from(world, a, b, rows[0]), rows)
            self.assertTrue(link_right(world, a, b, rows))


class LinkJudge(Case):

    def test_rows_bent_at_one_place(self):
        for world in small_worlds():
            known = standings(world)
            for a in known[::20]:
                runs = shortest_runs(world, a)
                for b in sorted(runs)[::9]:
                    self.check_bent(world, a, b, trace(world, a, runs[b]))

    def check_bent(self, world, a, b, rows):
        self.assertIs(link_right(world, a, b, rows), True)
        for place in range(world.net.many):
            for row in bent(rows[place]):
                other = rows[:place] + (row,) + rows[place + 1:]
                wanted = bool(row) and max(row) < world.table.many and is_right(world, a, b, other)
                self.assertIs(link_right(world, a, b, other), wanted)

    def test_there_and_not_right(self):
        some = 0
        for world in small_worlds():
            if world.net.many <= 4 and world.table.many <= 3:
                known = standings(world)
                for a, b in itertools.product(known[::7], known[::3]):
                    for first in firsts(world.table, a[world.base], b[world.base], 2):
                        rows = followed(world, a, b, first)
                        if rows is not None:
                            right = is_right(world, a, b, rows)
                            self.assertIs(link_right(world, a, b, rows), right)
                            some += not right
        self.assertGreater(some, 100)

    def test_long_rows(self):
        # Round and round: rows of any length are judged.
        world = made_world(unlike_coats(3), line_net(2))
        for steps in (300, 3000, 30000):
            one = tuple(at % 3 for at in range(steps + 1))
            two = tuple((at + 1) % 3 for at in range(steps + 1))
            a, b = (one[0], two[0]), (one[-1], two[-1])
            self.assertIs(link_right(world, a, b, (one, two)), True)
            self.assertIs(link_right(world, a, b, (one, two + (two[-2], two[-1]))), False)
            self.assertIs(link_right(world, a, b, (one, two[:1])), False)

    def test_bad_standings(self):
        rows = ((0,), (1,), (0,), (1,))
        a = (0, 1, 0, 1)
        self.assertIs(link_right(SQUARE, a, a, rows), True)
        for bad in ((0, 1, 0), (0, 1, 0, 1, 0), (0, 1, 0, 3), (0, 1, 0, 0), (0, 1, 0, -2)):
            self.assertIs(link_right(SQUARE, bad, a, rows), False)
            self.assertIs(link_right(SQUARE, a, bad, rows), False)
            self.assertIs(link_right(SQUARE, bad, bad, tuple((coat,) for coat in bad)), False)

    def test_odd_things(self):
        rows = ((0,), (1,), (0,), (1,))
        a = (0, 1, 0, 1)
        deep = (nested(100), (nested(99),) * 4, (0,) * 10 ** 5, ((0, 1) * 10000,) * 4, ((0,), (1,), (0,), (1,)) * 9)
        for world in (SQUARE, made_world(unlike_coats(3), ring_net(4))):
            for thing in ODD_THINGS + deep:
                self.assertIs(link_right(world, thing, a, rows), False)
                self.assertIs(link_right(world, a, thing, rows), False)
                self.assertIs(link_right(world, a, a, thing), False)
            for part in (None, "1", 1, (), ("1",), (None,), ((1,),), (1, None, 1), (1, "0", 2), nested(98), "", "101"):
                for place in range(4):
                    self.assertIs(link_right(world, a, a, rows[:place] + (part,) + rows[place + 1:]), False)
            for other in (rows[:3], rows + ((0,),), ()):
                self.assertIs(link_right(world, a, a, other), False)


if __name__ == "__main__":
    unittest.main()
