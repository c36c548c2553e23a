"""Rests of rows: [4]."""

import itertools
import unittest

from betweencoats.errors import BadCoat, BadSize
from betweencoats.rests import back, is_straight, rest, strikes, turns
from tests.plainly import Case, rested

ALL = (rest, is_straight, strikes, turns, back)
ZIGZAG = (0, 1) * 100
ROUND = (0, 1, 2, 3) * 50
DEEP = tuple(range(8)) * 12 + (7, 6, 7, 6, 5) + tuple(range(7, -1, -1)) * 12


class Rests(Case):

    def test_examples(self):
        self.assertEqual(rest((0, 1, 2, 1, 0, 2)), (0, 2))
        self.assertEqual(strikes((0, 1, 2, 1, 0, 2)), 2)
        self.assertEqual(rest((0, 0, 0, 1)), (0, 1))
        self.assertEqual(strikes((0, 0, 0, 1)), 1)

    def test_by_hand(self):
        self.assertEqual(rest(row=(5,)), (5,))
        self.assertEqual(rest((5, 5)), (5, 5))
        self.assertEqual(rest((0, 1, 0)), (0,))
        self.assertEqual(rest((0, 1, 2)), (0, 1, 2))
        self.assertEqual(rest((0, 1, 1, 0)), (0, 1, 1, 0))
        self.assertEqual(strikes(row=(0, 1, 2)), 0)
        self.assertEqual(turns(row=(0, 1, 0, 1, 2)), (1, 2))
        self.assertEqual(turns((0, 0, 0)), (1,))
        self.assertEqual(turns((0, 1)), ())
        self.assertIs(is_straight(row=(0, 1, 1, 0)), True)
        self.assertIs(is_straight((0, 1, 1, 1)), False)
        self.assertIs(is_straight((3, 1, 3)), False)
        self.assertEqual(back(row=(0, 1, 2)), (2, 1, 0))
        self.assertEqual(back((7,)), (7,))

    def test_all_small_rows(self):
        for size in range(1, 8):
            for row in itertools.product(range(3), repeat=size):
                self.check_row(row)

    def test_long_rows(self):
        self.assertEqual(len(DEEP), 197)
        for row in (ZIGZAG, ROUND, DEEP, (3,) * 200, (0,) + (1, 2) * 99 + (0,), ROUND[:100] + ROUND[99::-1]):
            self.check_row(row)
        self.assertEqual(rest(ZIGZAG), (0, 1))
        self.assertEqual(strikes(ZIGZAG), 99)
        self.assertEqual(rest(ROUND), ROUND)
        self.assertEqual(strikes(ROUND), 0)
        self.assertEqual(turns(ZIGZAG), tuple(range(1, 199)))
        self.assertEqual(rest((3,) * 200), (3, 3))

    def check_row(self, row):
        left = rested(row)
        self.assertEqual(rested(row, last=True), left)
        self.assertEqual(rest(row), left)
        self.assertEqual(rest(rest(row)), left)
        self.assertEqual(rest(row[::-1]), left[::-1])
        self.assertEqual(2 * strikes(row), len(row) - len(left))
        self.assertIs(is_straight(row), left == row)
        self.assertEqual(turns(row), tuple(i for i in range(1, len(row) - 1) if row[i - 1] == row[i + 1]))
        self.assertEqual(back(row), tuple(reversed(row)))
        self.assertEqual(back(back(row)), row)

    def test_size(self):
        for call in ALL:
            self.refuses(BadSize, 0, call, ())
            self.refuses(BadSize, 201, call, (0,) * 201)
            self.refuses(BadSize, 201, call, (8,) * 201)
            self.refuses(BadSize, 1000, call, (0, 1) * 500)
            call((0,))
            call((0,) * 200)

    def test_coats(self):
        for call in ALL:
            self.refuses(BadCoat, 0, call, (-1,))
            self.refuses(BadCoat, 0, call, (8,))
            self.refuses(BadCoat, 2, call, (0, 7, 8, -1))
            self.refuses(BadCoat, 1, call, (0, -1, 9))
            self.refuses(BadCoat, 199, call, (7,) * 199 + (10 ** 30,))
            call((0, 7))


if __name__ == "__main__":
    unittest.main()
