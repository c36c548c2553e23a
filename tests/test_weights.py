"""Rows with weights: [29]."""

import time
import unittest

from betweencoats.errors import BadCount, BadSize, BadStone, BadWeights, NotStraight
from betweencoats.evencounts import even_count
from betweencoats.lightest import lightest
from betweencoats.rowcounts import row_count
from betweencoats.tables import made_table
from betweencoats.tableshapes import all_coats, line_coats, ring_coats, unlike_coats
from betweencoats.weighed import weighed
from tests.plainly import MIXED, Case, rested, straight_rows, table_rows

TABLES = (
    (unlike_coats(3), 7), (line_coats(3), 9), (all_coats(2), 8), (MIXED, 6), (ring_coats(5), 8), (unlike_coats(2), 9),
    (made_table(((0,),)), 7), (made_table(((),)), 3), (all_coats(3), 5), (made_table(((1, 2), (0, 1), (0,))), 7))
EXAMPLE = ((1, 1, 1), (5, 1, 3), (1, 1, 1))
BOTH = (lightest, weighed)


def some_weights(table, L, highest, salt):
    """Weights that go up and down, with 0 and the highest one among them."""
    found = []
    for at in range(L + 1):
        row = [(at * 7 + coat * 13 + at * coat * salt + salt * salt) % 11 for coat in range(table.many)]
        found.append(tuple({10: highest, 9: highest - 1}.get(number, number) for number in row))
    return tuple(found)


def zero_one(table, L, salt):
    """Weights of 0 and 1 alone, so that many rows are alike."""
    return tuple(tuple((at + coat * salt + at * coat) % 3 // 2 for coat in range(table.many)) for at in range(L + 1))


def product(row, weights):
    found = 1
    for at, coat in enumerate(row):
        found *= weights[at][coat]
    return found


def total(row, weights):
    return sum(weights[at][coat] for at, coat in enumerate(row))


def cases():
    """For each table and number of steps: (table, L, the rows by their rests, all straight rows with few steps)."""
    for table, most in TABLES:
        straight = [row for many in range(1, most + 2) for row in straight_rows(table, many)]
        for L in range(most):
            found = {W: [] for W in straight}
            for row in table_rows(table, L + 1):
                found[rested(row)].append(row)
            yield table, L, found


class Weights(Case):

    def test_example(self):
        table = line_coats(3)
        self.assertEqual(lightest(table, (1,), 2, EXAMPLE), (5, (1, 2, 1)))
        self.assertEqual(lightest(table=table, W=(1,), L=2, weights=EXAMPLE), (5, (1, 2, 1)))
        self.assertEqual(weighed(table, (1,), 2, EXAMPLE), 8)
        self.assertEqual(weighed(table=table, W=(1,), L=2, weights=EXAMPLE), 8)

    def test_lightest_against_listings(self):
        for table, L, found in cases():
            for weights in (some_weights(table, L, 99, 3), some_weights(table, L, 99, 4), zero_one(table, L, 1),
                            zero_one(table, L, 2), ((0,) * table.many,) * (L + 1), ((99,) * table.many,) * (L + 1)):
                for W, rows in found.items():
                    wanted = min([(total(row, weights), row) for row in rows], default=None)
                    self.assertEqual(lightest(table, W, L, weights), wanted)

    def test_weighed_against_listings(self):
        for table, L, found in cases():
            for weights in (some_weights(table, L, 10 ** 30, 3), some_weights(table, L, 10 ** 30, 4),
                            zero_one(table, L, 1), ((0,) * table.many,) * (L + 1),
                            ((10 ** 30,) * table.many,) * (L + 1)):
                for W, rows in found.items():
                    wanted = sum(product(row, weights) for row in rows)
                    self.assertEqual(weighed(table, W, L, weights), wanted)

    def test_no_rows(self):
        table = unlike_coats(3)
        for W, L in (((0, 1), 0), ((0, 1), 2), ((0,), 1), ((0, 1, 2), 1), (tuple(at % 3 for at in range(200)), 11)):
            weights = ((1, 1, 1),) * (L + 1)
            self.assertIsNone(lightest(table, W, L, weights))
            self.assertEqual(weighed(table, W, L, weights), 0)
        weights = ((1,) * 5,) * 3
        self.assertIsNone(lightest(MIXED, (4,), 2, weights))
        self.assertEqual(weighed(MIXED, (4,), 2, weights), 0)
        self.assertEqual(lightest(MIXED, (4,), 0, ((1, 2, 3, 4, 5),)), (5, (4,)))
        self.assertEqual(weighed(MIXED, (4,), 0, ((1, 2, 3, 4, 5),)), 5)

    def test_what_holds(self):
        for table, steps in ((unlike_coats(3), (11, 12, 23, 24)), (MIXED, (11, 24)), (all_coats(3), (10, 11))):
            for L in steps:
                for W in straight_rows(table, 1 + L % 2) + straight_rows(table, 3 + L % 2):
                    self.check_what_holds(table, W, L)

    def check_what_holds(self, table, W, L):
        self.assertEqual(weighed(table, W, L, ((1,) * table.many,) * (L + 1)), row_count(table, W, L))
        weights = some_weights(table, L, 10 ** 30, 5)
        found = weighed(table, W, L, weights)
        self.assertEqual(weighed(table, W[::-1], L, weights[::-1]), found)
        at = L // 2
        one = tuple(number // 3 for number in weights[at])
        two = tuple(number - number // 3 for number in weights[at])
        parts = [weighed(table, W, L, weights[:at] + (row,) + weights[at + 1:]) for row in (one, two)]
        self.assertEqual(sum(parts), found)

    def test_lightest_of_12_steps(self):
        table = unlike_coats(3)
        for W in ((0,), (1, 2, 0)):
            rows = [row for row in table_rows(table, 13) if rested(row) == W]
            for weights in (some_weights(table, 12, 99, 3), zero_one(table, 12, 1)):
                self.assertEqual(lightest(table, W, 12, weights), min((total(row, weights), row) for row in rows))

    def test_8_coats(self):
        begun = time.perf_counter()
        for table, q in ((all_coats(8), 8), (unlike_coats(8), 7), (ring_coats(8), 2)):
            ones, great = ((1,) * 8,) * 25, ((10 ** 30,) * 8,) * 25
            self.assertEqual(weighed(table, (3,), 24, ones), even_count(q, 0, 24))
            self.assertEqual(weighed(table, (3,), 24, great), even_count(q, 0, 24) * 10 ** 750)
            self.assertEqual(weighed(table, (3, 4, 5), 24, great), even_count(q, 2, 24) * 10 ** 750)
            self.assertEqual(weighed(table, (3, 4), 23, great[1:]), even_count(q, 1, 23) * 10 ** 720)
            self.assertEqual(lightest(table, (3,), 12, ((99,) * 8,) * 13)[0], 99 * 13)
            self.assertEqual(lightest(table, (3, 4, 5), 12, ((99,) * 8,) * 13)[0], 99 * 13)
        self.assertEqual(lightest(all_coats(8), (3,), 12, ((0,) * 8,) * 13), (0, (3,) + (0,) * 11 + (3,)))
        self.assertLess(time.perf_counter() - begun, 10)


class Errors(Case):

    def test_the_row(self):
        table = unlike_coats(3)
        for call in BOTH:
            self.refuses(BadSize, 0, call, table, (), -1, ())
            self.refuses(BadSize, 201, call, table, (9,) * 201, -1, ())
            self.refuses(BadStone, 0, call, table, (3, 0, 3), -1, ())
            self.refuses(BadStone, 3, call, table, (0, 1, 0, 0), -1, ())
            self.refuses(NotStraight, 1, call, table, (0, 1, 0, 1), -1, ())

    def test_steps(self):
        table = unlike_coats(3)
        ones = (1, 1, 1)
        self.assertEqual(lightest(table, (0,), 12, (ones,) * 13), (13, (0, 1) * 6 + (0,)))
        self.assertEqual(weighed(table, (0,), 13, (ones,) * 14), 0)
        self.assertEqual(weighed(table, (0,), 24, (ones,) * 25), row_count(table, (0,), 24))
        for call, most in ((lightest, 12), (weighed, 24)):
            for L in (-1, most + 1, 40, 10 ** 20, -10 ** 20):
                self.refuses(BadCount, L, call, table, (0,), L, ())
                self.refuses(BadCount, L, call, table, (0,), L, (ones,) * (most + 2))
                self.refuses(BadCount, L, call, table, (0, 1), L, ((-1,),))

    def test_how_many_rows_of_weights(self):
        table = unlike_coats(3)
        for call, most in ((lightest, 12), (weighed, 24)):
            for L in (0, 2, most):
                for many in (0, 1, L, L + 2, 30):
                    if many != L + 1:
                        self.refuses(BadWeights, L + 1, call, table, (0,), L, ((1, 1, 1),) * many)
                        self.refuses(BadWeights, L + 1, call, table, (0,), L, ((-1,),) * many)
                        # Also where there is no row.
                        self.refuses(BadWeights, L + 1, call, table, (0, 1), L, ((1, 1, 1),) * many)

    def test_rows_of_weights(self):
        table = unlike_coats(3)
        for call, highest in ((lightest, 99), (weighed, 10 ** 30)):
            bad = ((), (1, 1), (1, 1, 1, 1), (-1, 0, 0), (0, 0, -1), (0, highest + 1, 0), (0, 0, 10 ** 40))
            for W in ((0,), (0, 1), (0, 1, 2)):
                for at in range(4):
                    for row in bad:
                        rows = ((0, highest, 1),) * at + (row,) + (bad[0],) * (3 - at)
                        self.refuses(BadWeights, at, call, table, W, 3, rows)
                        rows = ((0, highest, 1),) * at + (row,) + ((1, 1, 1),) * (3 - at)
                        self.refuses(BadWeights, at, call, table, W, 3, rows)

    def test_each_greatest_number(self):
        table = unlike_coats(3)
        self.assertEqual(lightest(table, (0,), 2, ((99, 99, 99),) * 3), (297, (0, 1, 0)))
        self.refuses(BadWeights, 2, lightest, table, (0,), 2, ((99, 99, 99),) * 2 + ((99, 100, 99),))
        self.assertEqual(weighed(table, (0,), 0, ((10 ** 30, 0, 0),)), 10 ** 30)
        self.refuses(BadWeights, 0, weighed, table, (0,), 0, ((0, 0, 10 ** 30 + 1),))


if __name__ == "__main__":
    unittest.main()
