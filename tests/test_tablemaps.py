"""Maps of tables and covers: [38]."""

import itertools
import unittest

from betweencoats.covers import is_cover
from betweencoats.errors import BadCoat
from betweencoats.links import link
from betweencoats.netshapes import line_net, ring_net
from betweencoats.rests import rest, turns
from betweencoats.same import come
from betweencoats.tablemaps import image, is_map
from betweencoats.tables import made_table
from betweencoats.tableshapes import all_coats, doubled, line_coats, ring_coats, unlike_coats
from betweencoats.work import work
from betweencoats.worlds import made_world
from tests.plainly import MIXED, ODD_THINGS, Case, nested, shortest_runs, standings, straight_rows, table_rows

TABLES = (
    unlike_coats(3), all_coats(2), line_coats(3), line_coats(2), unlike_coats(1), all_coats(1), ring_coats(4),
    made_table(((0, 1), (0,))), made_table(((1,), (0,), ())), made_table(((0,), (1,))), made_table(((), ())))
# Each with the table that it covers and the cover.
COVERS = (
    (doubled(unlike_coats(3)), unlike_coats(3), (0, 0, 1, 1, 2, 2)), (ring_coats(6), ring_coats(3), (0, 1, 2, 0, 1, 2)),
    (doubled(all_coats(2)), all_coats(2), (0, 0, 1, 1)), (ring_coats(8), ring_coats(4), (0, 1, 2, 3, 0, 1, 2, 3)),
    (unlike_coats(3), unlike_coats(3), (1, 2, 0)), (unlike_coats(2), all_coats(1), (0, 0)),
    (doubled(MIXED_SMALL := made_table(((0, 1), (0, 2), (1,)))), MIXED_SMALL, (0, 0, 1, 1, 2, 2)))
# Maps that are no covers.
MAPS = (
    (line_coats(4), unlike_coats(3), (0, 1, 2, 1)), (unlike_coats(3), all_coats(2), (0, 0, 1)),
    (line_coats(3), line_coats(2), (0, 1, 0)), (ring_coats(4), unlike_coats(2), (0, 1, 0, 1)),
    (unlike_coats(3), unlike_coats(4), (3, 1, 0)))


def map_by_the_words(table, other, coats):
    pairs = [(p, s) for p in range(table.many) for s in table.beside[p]]
    return all((coats[p], coats[s]) in [(u, v) for u in range(other.many) for v in other.beside[u]] for p, s in pairs)


def cover_by_the_words(table, other, coats):
    if not map_by_the_words(table, other, coats):
        return False
    for p in range(table.many):
        for road in other.beside[coats[p]]:
            if sum(coats[s] == road for s in table.beside[p]) != 1:
                return False
    return True


class Maps(Case):

    def test_by_the_words(self):
        told = {}
        for table, other in itertools.product(TABLES, repeat=2):
            for coats in itertools.product(range(other.many), repeat=table.many):
                found = is_map(table, other, coats), is_cover(table, other, coats)
                self.assertEqual(found, (map_by_the_words(table, other, coats), cover_by_the_words(table, other, coats)))
                told[found] = told.get(found, 0) + 1
        self.assertEqual(set(told), {(False, False), (True, False), (True, True)})
        self.assertGreater(min(told.values()), 40)

    def test_known_ones(self):
        for table, other, coats in COVERS:
            self.assertIs(is_map(table, other, coats), True)
            self.assertIs(is_cover(table, other, coats), True)
        for table, other, coats in MAPS:
            self.assertIs(is_map(table=table, other=other, coats=coats), True)
            self.assertIs(is_cover(table=table, other=other, coats=coats), False)

    def test_near_ones(self):
        for table, other, coats in COVERS + MAPS:
            for at in range(table.many):
                for coat in (-1, other.many, -other.many, 10 ** 20, None, "0", (0,), True, False, "", ()):
                    bad = coats[:at] + (coat,) + coats[at + 1:]
                    self.assertIs(is_map(table, other, bad), False)
                    self.assertIs(is_cover(table, other, bad), False)
                for coat in range(other.many):
                    near = coats[:at] + (coat,) + coats[at + 1:]
                    self.assertIs(is_map(table, other, near), map_by_the_words(table, other, near))
                    self.assertIs(is_cover(table, other, near), cover_by_the_words(table, other, near))
            for bad in (coats[1:], coats[:-1], coats + coats[:1], coats + (0,), coats * 2, ()):
                self.assertIs(is_map(table, other, bad), False)
                self.assertIs(is_cover(table, other, bad), False)

    def test_a_coat_without_roads_goes_to_a_coat_too(self):
        lone, pair = made_table(((),)), made_table(((), (1,)))
        for other in (lone, pair, unlike_coats(3)):
            for coat in range(-9, 9):
                self.assertIs(is_map(lone, other, (coat,)), 0 <= coat < other.many)
                self.assertIs(is_cover(lone, other, (coat,)), 0 <= coat < other.many and other.beside[coat] == ())

    def test_odd_things(self):
        deep = (nested(100), (nested(99),) * 3, (0,) * 10 ** 5, (0, 1, 2, (0,)), ("0", "1", "2"), "012", (None,) * 3)
        for table in (unlike_coats(3), all_coats(1), unlike_coats(2)):
            for thing in ODD_THINGS + deep:
                if not (isinstance(thing, tuple) and len(thing) == table.many and all(isinstance(c, int) for c in thing)):
                    self.assertIs(is_map(table, table, thing), False)
                    self.assertIs(is_cover(table, table, thing), False)

    def test_doubled(self):
        for table in (unlike_coats(3), all_coats(4), ring_coats(4), line_coats(3), all_coats(1), MIXED_SMALL):
            two = doubled(table)
            self.assertIs(is_cover(two, table, tuple(coat // 2 for coat in range(two.many))), True)

    def test_a_cover_of_a_cover(self):
        once = doubled(all_coats(2))
        twice = doubled(once)
        halves = image(tuple(coat // 2 for coat in range(8)), (0, 0, 1, 1))
        self.assertEqual(halves, (0, 0, 0, 0, 1, 1, 1, 1))
        self.assertIs(is_cover(twice, all_coats(2), halves), True)
        self.assertIs(is_cover(ring_coats(8), all_coats(1), (0,) * 8), False)
        self.assertIs(is_cover(unlike_coats(2), all_coats(1), (0, 0)), True)
        two = image(tuple(coat // 2 for coat in range(4)), (0, 0))
        self.assertIs(is_cover(doubled(unlike_coats(2)), all_coats(1), two), True)


class Images(Case):

    def test_by_hand(self):
        self.assertEqual(image((0, 1, 2, 0), (5, 0, 7)), (5, 0, 7, 5))
        self.assertEqual(image(row=(), coats=()), ())
        self.assertEqual(image((2, 2), (10 ** 20, 0, -3)), (-3, -3))
        self.assertEqual(image((), (1, 2)), ())
        self.assertEqual(image((0,) * 300, (4,)), (4,) * 300)

    def test_numbers_that_are_no_index(self):
        for bad in (3, -1, -3, 10 ** 20, -10 ** 20):
            self.refuses(BadCoat, bad, image, (0, 1, bad), (0, 1, 2))
            self.refuses(BadCoat, bad, image, (bad, 9, -9), (0, 1, 2))
        self.refuses(BadCoat, 7, image, (0, 7, -1), (0, 1, 2))
        self.refuses(BadCoat, -1, image, (0, -1, 7), (0, 1, 2))
        self.refuses(BadCoat, 0, image, (0,), ())

    def test_rests(self):
        for table, other, coats in COVERS + MAPS:
            for many in range(1, 6):
                for row in table_rows(table, many):
                    self.assertEqual(rest(image(row, coats)), rest(image(rest(row), coats)))

    def test_covers_keep_straight_rows(self):
        for table, other, coats in COVERS:
            for many in range(1, 6):
                for row in straight_rows(table, many):
                    self.assertEqual(turns(image(row, coats)), ())

    def test_each_row_has_one_over_it(self):
        for table, other, coats in COVERS:
            for many in range(1, 5):
                found = {}
                for row in table_rows(table, many):
                    found.setdefault((row[0], image(row, coats)), []).append(row)
                self.assertEqual({len(rows) for rows in found.values()}, {1})
                wanted = sum(coats[c] == row[0] for c in range(table.many) for row in table_rows(other, many))
                self.assertEqual(len(found), wanted)

    def test_what_comes_along_a_map(self):
        for table, other, coats in COVERS + MAPS:
            for net, pegs in ((line_net(4), (1,)), (ring_net(4), (0,)), (ring_net(3), (2,)), (line_net(3), (0, 2))):
                world, target = made_world(table, net, pegs=pegs), made_world(other, net, pegs=pegs)
                is_one = is_cover(table, other, coats)
                known = standings(world)
                for a in known[::11]:
                    self.check_pairs(world, target, coats, a, known[::5], is_one)

    def check_pairs(self, world, target, coats, a, known, is_one):
        runs = shortest_runs(world, a)
        for b in known:
            two, goal = image(a, coats), image(b, coats)
            if b in runs:
                self.assertTrue(come(target, two, goal))
                for one, more in zip(work(target, two, goal), work(world, a, b)):
                    self.assertLessEqual(one, more)
            if is_one and a[world.base] == b[world.base]:
                self.assertIs(come(target, two, goal), b in runs)
                if b in runs:
                    self.assertEqual(work(target, two, goal), work(world, a, b))
                    rows = link(world, a, b)
                    self.assertEqual(link(target, two, goal), tuple(image(row, coats) for row in rows))


if __name__ == "__main__":
    unittest.main()
