"""A standing with given rows: [24]."""

import itertools
import unittest

from betweencoats.errors import BadSize, BadStone, BadWant, NoPeg, NotFlat
from betweencoats.filled import filled
from betweencoats.lifts import is_flat
from betweencoats.netshapes import grid_net, line_net, ring_net, star_net
from betweencoats.same import come
from betweencoats.tableshapes import all_coats, line_coats, unlike_coats
from betweencoats.worlds import made_world
from tests.plainly import (
    EYE, KITE, MIXED, Case, away, rested, shortest_runs, small_worlds, standings, table_rows)
from tests.test_lifts import long_lifts

LINE = made_world(unlike_coats(3), line_net(4), pegs=(0,))
ENDS = made_world(unlike_coats(3), line_net(4), pegs=(0, 3))


def filled_by_the_words(world, a, wants):
    own, wanted = long_lifts(world, a), dict(wants)
    far = [away(world.net, place) for place in range(world.net.many)]
    for peg in world.pegs:
        if wanted.get(peg, own[peg]) != own[peg]:
            return "far", peg, peg
    rows = {v: wanted.get(v, own[v]) for v in sorted(set(world.pegs) | set(wanted))}
    for v, w in itertools.combinations(rows, 2):
        if len(rested(rows[v][::-1] + rows[w][1:])) - 1 > far[v][w]:
            return "far", v, w
    for u in range(world.net.many):
        if u not in rows:
            begun = []
            for w, row in rows.items():
                begun.append(list(row))
                for _ in range(far[w][u]):
                    if len(begun[-1]) > 1:
                        begun[-1].pop()
            row = sorted(begun, key=len)[-1]
            if (len(row) + 1 + far[world.base][u]) % 2 == 1:
                row = row[:-1] if len(row) > 1 else row + [min(world.table.beside[row[0]])]
            rows[u] = tuple(row)
    return "standing", tuple(rows[v][-1] for v in range(world.net.many))


def possible_rows(world, a, place, more):
    """All straight rows that may be wanted at a place, up to some steps more than it is far from the base."""
    far = away(world.net, world.base)[place]
    for steps in range(far % 2, far + more + 1, 2):
        for row in table_rows(world.table, steps + 1):
            if row[0] == a[world.base] and rested(row) == row:
                yield row


def flat_worlds():
    for world in small_worlds(pegged_only=True):
        if world.net.many >= 3:
            yield world
    for net, pegs in ((EYE, (0, 5)), (line_net(5), (2,)), (line_net(5), (0, 4)), (grid_net(3, 2), (1,)), (KITE, (4,))):
        for table in (line_coats(4), unlike_coats(3), MIXED):
            yield made_world(table, net, pegs=pegs)


class Examples(Case):

    def test_example(self):
        a = (0, 1, 0, 1)
        self.assertEqual(filled(LINE, a, ((2, (0, 2, 1)),)), ("standing", (0, 2, 1, 2)))
        self.assertEqual(filled(world=LINE, a=a, wants=((2, (0, 2, 1)), (3, (0, 1)))), ("far", 2, 3))

    def test_no_wants(self):
        self.assertEqual(filled(LINE, (0, 2, 1, 2), ()), ("standing", (0, 1, 0, 1)))
        self.assertEqual(filled(LINE, (2, 0, 1, 2), ()), ("standing", (2, 0, 2, 0)))
        self.assertEqual(filled(ENDS, (0, 1, 2, 0), ()), ("standing", (0, 1, 2, 0)))
        self.assertEqual(filled(made_world(MIXED, line_net(1), pegs=(0,)), (4,), ()), ("standing", (4,)))
        for world in flat_worlds():
            for a in standings(world)[::9]:
                if is_flat(world, a):
                    word, standing = filled(world, a, ())
                    self.assertEqual(word, "standing")
                    self.assertTrue(come(world, a, standing))

    def test_wants_at_pegs(self):
        a = (0, 1, 2, 1)
        # Their lifts.
        self.assertEqual(filled(ENDS, a, ((0, (0,)),)), ("standing", (0, 1, 0, 1)))
        self.assertEqual(filled(ENDS, a, ((0, (0,)), (3, (0, 1)))), ("standing", (0, 1, 0, 1)))
        self.assertEqual(filled(ENDS, a, ((3, (0, 1)),)), ("standing", (0, 1, 0, 1)))
        self.assertEqual(filled(ENDS, a, ((2, (0, 1, 2)), (3, (0, 1)))), ("standing", (0, 1, 2, 1)))
        # Another row, which comes ahead of pairs that are too far apart; the least peg is told.
        self.assertEqual(filled(ENDS, a, ((3, (0, 2)),)), ("far", 3, 3))
        self.assertEqual(filled(ENDS, a, ((0, (0, 1, 2)),)), ("far", 0, 0))
        self.assertEqual(filled(ENDS, a, ((0, (0, 2, 1)), (3, (0, 2)))), ("far", 0, 0))
        self.assertEqual(filled(ENDS, a, ((1, (0, 1, 2, 0)), (3, (0, 1, 2, 0)))), ("far", 3, 3))
        # Without these the pair (0, 1) is the first one.
        self.assertEqual(filled(ENDS, a, ((1, (0, 1, 2, 0)), (3, (0, 1)))), ("far", 0, 1))

    def test_first_pair(self):
        world = made_world(unlike_coats(3), line_net(6), pegs=(2,))
        a = (0, 1, 0, 1, 0, 1)
        wants = ((0, (0, 1, 2)), (1, (0, 2)), (4, (0, 2, 1)), (5, (0, 1)))
        self.assertEqual(filled(world, a, wants), ("far", 0, 1))
        self.assertEqual(filled(world, a, wants[1:]), ("far", 4, 5))
        self.assertEqual(filled(world, a, wants[:1] + wants[2:]), ("far", 4, 5))
        self.assertEqual(filled(world, a, wants[:1] + wants[2:3]), ("standing", (2, 1, 0, 2, 1, 2)))

    def test_the_least_road(self):
        # Place 1 is one thread away and has no longer row to follow.
        world = made_world(MIXED, line_net(3), pegs=(0,))
        self.assertEqual(filled(world, (2, 3, 2), ()), ("standing", (2, 1, 2)))
        self.assertEqual(filled(world, (0, 0, 0), ()), ("standing", (0, 0, 0)))
        self.assertEqual(filled(world, (3, 2, 3), ()), ("standing", (3, 2, 3)))


class ByTheWords(Case):

    def test_one_want(self):
        for world in flat_worlds():
            for a in standings(world)[::40]:
                if is_flat(world, a):
                    for place in range(world.net.many):
                        self.check(world, a, [((place, row),) for row in possible_rows(world, a, place, 2)])

    def test_several_wants(self):
        for world in flat_worlds():
            for a in standings(world)[::60]:
                if is_flat(world, a):
                    for many in (2, 3):
                        for places in itertools.combinations(range(world.net.many), many):
                            rows = [list(possible_rows(world, a, place, 0)) for place in places]
                            chosen = list(itertools.product(*rows))
                            some = chosen[::1 + len(chosen) // 8]
                            self.check(world, a, [tuple(zip(places, wanted)) for wanted in some])

    def check(self, world, a, asked):
        runs = shortest_runs(world, a)
        known = [long_lifts(world, b) for b in runs]
        for wants in asked:
            found = filled(world, a, wants)
            self.assertEqual(found, filled_by_the_words(world, a, wants))
            there = any(all(rows[place] == row for place, row in wants) for rows in known)
            self.assertEqual(found[0], "standing" if there else "far")
            if there:
                self.assertIn(found[1], runs)
                rows = long_lifts(world, found[1])
                for place, row in wants:
                    self.assertEqual(rows[place], row)

    def test_large(self):
        world = made_world(unlike_coats(8), grid_net(6, 4), pegs=(0,))
        a = tuple((place // 6 + place % 6) % 2 for place in range(24))
        wants = ((14, (0, 7, 6, 5, 4)), (23, (0, 7, 6, 5, 4, 3, 2, 1, 0)))
        word, standing = filled(world, a, wants)
        self.assertEqual((word, standing), filled_by_the_words(world, a, wants))
        self.assertEqual(word, "standing")
        self.assertTrue(come(world, a, standing))
        rows = long_lifts(world, standing)
        self.assertEqual([rows[place] for place, _ in wants], [row for _, row in wants])
        ring = made_world(unlike_coats(3), ring_net(24), pegs=tuple(range(0, 24, 5)))
        a = (0, 1) * 12
        self.assertEqual(filled(ring, a, ()), ("standing", a))


class Errors(Case):

    def test_each_way_to_be_bad(self):
        a = (0, 1, 0, 1)
        long = tuple(at % 3 for at in range(201))
        bad = (
            (4, (0,)), (-1, (0, 1)), (-4, (0,)), (10 ** 20, (0,)),
            (2, ()), (2, long), (1, long + (0,)), (2, (0, 1)), (1, (0,)), (1, (0, 1, 2)), (0, (0, 1)), (3, (0, 1, 2)),
            (2, (1, 2, 0)), (2, (1,)), (0, (1,)), (0, (3,)), (2, (-1, 0, 1)),
            (2, (0, 0, 1)), (2, (0, 3, 1)), (2, (0, -1, 1)), (2, (0, 1, 3)), (2, (0, 1, 10 ** 20)),
            (2, (0, 1, 0)), (2, (0, 1, 2, 1, 0)), (2, (0, 1, 1)), (3, (0, 1, 2, 1)))
        for place, row in bad:
            self.refuses(BadWant, 0, filled, LINE, a, ((place, row),))
            self.refuses(BadWant, 0, filled, LINE, a, ((place, row), (9, ())))
            self.refuses(BadWant, 1, filled, LINE, a, ((0, (0,)), (place, row), (9, ())))

    def test_places_must_ascend(self):
        a = (0, 1, 0, 1)
        self.refuses(BadWant, 1, filled, LINE, a, ((1, (0, 1)), (1, (0, 1))))
        self.refuses(BadWant, 1, filled, LINE, a, ((2, (0, 1, 2)), (1, (0, 1)), (3, (0, 1))))
        self.refuses(BadWant, 2, filled, LINE, a, ((1, (0, 1)), (2, (0, 1, 2)), (0, (0,))))

    def test_200_and_201_stones(self):
        a = (0, 1, 0, 1)
        row = tuple(at % 3 for at in range(201))
        self.assertEqual(filled(LINE, a, ((1, row[:200]),)), ("far", 0, 1))
        self.assertEqual(filled(LINE, a, ((2, row[:199]),)), ("far", 0, 2))
        self.refuses(BadWant, 0, filled, LINE, a, ((2, row),))

    def test_not_flat_comes_last(self):
        free = made_world(unlike_coats(3), ring_net(3))
        world = made_world(unlike_coats(3), ring_net(3), pegs=(1,))
        self.refuses(NoPeg, 0, filled, free, (), ((9, ()),))
        self.refuses(BadSize, 0, filled, world, (), ((9, ()),))
        self.refuses(BadStone, 1, filled, world, (0, 0, 2), ((9, ()),))
        self.refuses(BadWant, 0, filled, world, (0, 1, 2), ((9, ()),))
        self.refuses(BadWant, 1, filled, world, (0, 1, 2), ((1, (1,)), (2, (1,))))
        self.refuses(NotFlat, 0, filled, world, (0, 1, 2), ())
        self.refuses(NotFlat, 0, filled, world, (0, 1, 2), ((1, (1,)), (2, (1, 0))))
        # Not flat, and a peg wanted with another row than its lift.
        self.refuses(NotFlat, 0, filled, world, (0, 1, 2), ((1, (1, 0, 2)),))

    def test_parity_is_counted_from_the_base(self):
        world = made_world(unlike_coats(3), star_net(4), pegs=(1,))
        a = (0, 1, 1, 1)
        self.assertEqual(filled(world, a, ((0, (1, 2)),)), ("standing", (2, 1, 1, 1)))
        self.assertEqual(filled(world, a, ((2, (1, 2, 0)),)), ("standing", (2, 1, 0, 1)))
        self.refuses(BadWant, 0, filled, world, a, ((0, (1,)),))
        self.refuses(BadWant, 0, filled, world, a, ((2, (1, 2)),))


if __name__ == "__main__":
    unittest.main()
