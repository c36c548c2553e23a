"""Joining, gaps and cores: [5], [6]."""

import itertools
import unittest

from betweencoats.cores import core
from betweencoats.errors import BadCoat, BadJoin, BadSize
from betweencoats.gaps import gap
from betweencoats.joins import joined
from tests.plainly import Case, rested

LONG = (0, 1, 2, 3) * 50
LOOPED = (0, 0) + (1, 1, 2, 2) * 49 + (3, 3)
BENT = (0, 1) * 100


def rows_up_to(size, many=3):
    return [row for n in range(1, size + 1) for row in itertools.product(range(many), repeat=n)]


def alike_at_first(one, two):
    """The steps of the longest common beginning of two rows."""
    at = 0
    while at < min(len(one), len(two)) and one[at] == two[at]:
        at += 1
    return at - 1


class Joins(Case):

    def test_by_hand(self):
        self.assertEqual(joined((0, 1, 2), (2, 1, 3)), (0, 1, 3))
        self.assertEqual(joined(one=(0, 1), two=(1, 2)), (0, 1, 2))
        self.assertEqual(joined((0, 1), (1, 0)), (0,))
        self.assertEqual(joined((4,), (4,)), (4,))
        self.assertEqual(joined((0, 0), (0, 0)), (0,))
        self.assertEqual(joined((0, 0), (0,)), (0, 0))
        self.assertEqual(joined((1, 0, 0), (0, 0, 2)), (1, 0, 2))
        self.assertEqual(joined((0, 1, 0, 2), (2, 3, 2, 1)), (0, 2, 1))

    def test_all_small_rows(self):
        for one, two in itertools.product(rows_up_to(4), repeat=2):
            if one[-1] == two[0]:
                self.assertEqual(joined(one, two), rested(one + two[1:]))
            else:
                self.refuses(BadJoin, (one[-1], two[0]), joined, one, two)

    def test_can_be_taken_off_again(self):
        for one, two in itertools.product(rows_up_to(5), repeat=2):
            if one[-1] == two[0]:
                self.assertEqual(joined(joined(one, two), two[::-1]), rested(one))
                self.assertEqual(joined(one[::-1], joined(one, two)), rested(two))

    def test_long_rows(self):
        for row in (LONG, LOOPED):
            self.assertEqual(len(row), 200)
            self.assertEqual(joined(row, row[::-1]), (row[0],))
            self.assertEqual(joined(row, (row[-1],)), row)
            self.assertEqual(joined((row[0],), row), row)
        twice = joined(LONG, (3,) + LONG[:199])
        self.assertEqual(twice, LONG + LONG[:199])
        self.assertEqual(len(joined(LOOPED, (3, 4) + LOOPED[:198])), 399)
        self.assertEqual(joined(BENT, BENT[::-1]), (0,))

    def test_errors(self):
        for call in (joined, gap):
            self.refuses(BadSize, 0, call, (), ())
            self.refuses(BadSize, 201, call, (0,) * 201, (9,) * 300)
            self.refuses(BadCoat, 1, call, (0, 8), ())
            self.refuses(BadCoat, 0, call, (-1, 9), (9, 9))
            self.refuses(BadSize, 0, call, (0, 1), ())
            self.refuses(BadSize, 202, call, (0, 1), (9,) * 202)
            self.refuses(BadCoat, 0, call, (0, 1), (8, 2))
            self.refuses(BadCoat, 2, call, (0, 1), (5, 2, -1))
        self.refuses(BadJoin, (1, 0), joined, (0, 1), (0, 2))
        self.refuses(BadJoin, (3, 5), joined, (3,), (5,))


class Gaps(Case):

    def test_by_hand(self):
        self.assertEqual(gap((0, 1, 2), (0, 1, 3)), 2)
        self.assertEqual(gap(one=(0,), two=(0,)), 0)
        self.assertEqual(gap((0, 1), (0,)), 1)
        self.assertEqual(gap((0, 2, 1), (0, 1)), 3)
        self.assertEqual(gap((0, 0), (0,)), 1)
        self.assertEqual(gap((0, 0), (0, 0)), 0)
        self.assertEqual(gap((0, 1, 0, 2), (0, 2, 3)), 1)

    def test_all_small_rows(self):
        for one, two in itertools.product(rows_up_to(4), repeat=2):
            if one[0] == two[0]:
                self.assertEqual(gap(one, two), len(rested(one[::-1] + two[1:])) - 1)
                self.assertEqual(gap(two, one), gap(one, two))
            else:
                self.refuses(BadJoin, (one[0], two[0]), gap, one, two)

    def test_straight_rows(self):
        straight = [row for row in rows_up_to(5) if rested(row) == row]
        for one, two in itertools.product(straight, repeat=2):
            if one[0] == two[0]:
                steps = len(one) + len(two) - 2
                self.assertEqual(gap(one, two), steps - 2 * alike_at_first(one, two))

    def test_long_rows(self):
        self.assertEqual(gap(LONG, LONG), 0)
        self.assertEqual(gap(LONG, LOOPED), 398)
        self.assertEqual(gap(LONG, LONG[:100] + (5,) * 2), 100 + 2)
        self.assertEqual(gap(LONG, (0,)), 199)

    def test_errors(self):
        self.refuses(BadJoin, (0, 1), gap, (0, 1), (1, 0))
        self.refuses(BadJoin, (7, 3), gap, (7,), (3, 7))


class Cores(Case):

    def test_example(self):
        self.assertEqual(core((0, 1, 2, 0, 1, 0)), ((0,), (0, 1, 2, 0)))

    def test_by_hand(self):
        self.assertEqual(core(row=(5,)), ((5,), (5,)))
        self.assertEqual(core((0, 0)), ((0,), (0, 0)))
        self.assertEqual(core((0, 1, 0)), ((0,), (0,)))
        self.assertEqual(core((0, 1, 1, 0)), ((0, 1), (1, 1)))
        self.assertEqual(core((3, 0, 1, 2, 0, 3)), ((3, 0), (0, 1, 2, 0)))
        self.assertEqual(core((3, 4, 0, 1, 2, 0, 4, 3)), ((3, 4, 0), (0, 1, 2, 0)))

    def test_all_small_rows(self):
        sizes = set()
        for row in rows_up_to(8):
            if row[0] == row[-1]:
                self.check_core(row)
                sizes.add(len(core(row)[1]) - 1)
            else:
                self.refuses(BadJoin, (row[0], row[-1]), core, row)
        self.assertEqual(sizes, {0, 1, 3, 4, 5, 6, 7})

    def test_long_rows(self):
        way = (0, 1, 2, 3) * 24 + (0, 1)
        for row in ((2,) * 200, (2,) * 199, LONG[:197], way + (5, 6, 5) + way[::-1], way + (1,) + way[::-1],
                    way[:97] + (5, 6, 7) + way[96::-1], (0,) + (1, 2, 3) * 66 + (0,), BENT[:199]):
            self.assertLessEqual(len(row), 200)
            self.check_core(row)
        self.assertEqual(core(way[:97] + (5, 6, 7) + way[96::-1]), (way[:97], (0, 5, 6, 7, 0)))
        self.assertEqual(core(way + way[::-1]), (way, (1, 1)))

    def check_core(self, row):
        left = rested(row)
        tail = [left[0]]
        while len(left) >= 3 and left[1] == left[-2]:
            left = left[1:len(left) - 1]
            tail.append(left[0])
        self.assertEqual(core(row), (tuple(tail), left))
        self.assertEqual(rested(tuple(tail) + left[1:] + tuple(tail[::-1])[1:]), rested(row))
        self.assertNotEqual(len(left) - 1, 2)
        self.assertEqual(left[0], left[-1])

    def test_errors(self):
        self.refuses(BadSize, 0, core, ())
        self.refuses(BadSize, 201, core, (0,) * 201)
        self.refuses(BadSize, 201, core, (0,) * 200 + (9,))
        self.refuses(BadCoat, 0, core, (8, 1))
        self.refuses(BadCoat, 1, core, (0, -1, 9, 1))
        self.refuses(BadJoin, (0, 1), core, (0, 1))
        self.refuses(BadJoin, (6, 2), core, (6, 1, 6, 2))


if __name__ == "__main__":
    unittest.main()
