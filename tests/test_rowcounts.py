"""How many rows: [26]."""

import math
import time
import unittest

from betweencoats.errors import BadCoat, BadCount, BadSize, BadStone, NotStraight
from betweencoats.rowcounts import all_rows, row_count, rows_between
from betweencoats.tables import made_table
from betweencoats.tableshapes import all_coats, line_coats, ring_coats, unlike_coats
from tests.plainly import MIXED, Case, rested, straight_rows, table_rows

TABLES = (
    (unlike_coats(3), 7), (line_coats(3), 9), (all_coats(2), 9), (MIXED, 7), (ring_coats(5), 9), (unlike_coats(2), 9),
    (made_table(((0,),)), 9), (made_table(((),)), 9), (all_coats(3), 6), (made_table(((1, 2), (0, 1), (0,))), 8))


def choose(many, some):
    return math.comb(many, some) if some >= 0 else 0


def even_sum(q, m, L):
    """How many rows there are if each coat has q roads, by the sum that [27] tells."""
    if m > L or (L - m) % 2 == 1:
        return 0
    return sum((choose(L, j) - choose(L, j - 1)) * (q - 1) ** j for j in range((L - m) // 2 + 1))


class Counts(Case):

    def test_examples(self):
        table = line_coats(3)
        self.assertEqual(row_count(table=table, W=(0,), L=4), 2)
        self.assertEqual(row_count(table, (1,), 4), 4)
        table = unlike_coats(3)
        self.assertEqual(row_count(table, (0, 1), 3), 3)
        self.assertEqual(rows_between(table=table, p=0, z=1, L=3), 3)
        self.assertEqual(rows_between(table, 0, 0, 3), 2)
        self.assertEqual(all_rows(table=table, p=0, L=3), 8)

    def test_against_listings(self):
        for table, most in TABLES:
            straight = [row for many in range(1, most + 2) for row in table_rows(table, many) if rested(row) == row]
            for L in range(most):
                rows = table_rows(table, L + 1)
                self.check_ends(table, L, rows)
                counts = {}
                for row in rows:
                    counts[rested(row)] = counts.get(rested(row), 0) + 1
                for W in straight:
                    self.assertEqual(row_count(table, W, L), counts.get(W, 0))

    def check_ends(self, table, L, rows):
        for p in range(table.many):
            self.assertEqual(all_rows(table, p, L), sum(row[0] == p for row in rows))
            for z in range(table.many):
                ends = sum(row[0] == p and row[-1] == z for row in rows)
                self.assertEqual(rows_between(table, p, z, L), ends)

    def test_sums(self):
        for table in (MIXED, unlike_coats(4), ring_coats(4), all_coats(2)):
            for L in (9, 10):
                straight = [row for many in range(1, L + 2) for row in straight_rows(table, many)]
                for p in range(table.many):
                    found = [0] * table.many
                    for W in straight:
                        if W[0] == p:
                            found[W[-1]] += row_count(table, W, L)
                    self.assertEqual(found, [rows_between(table, p, z, L) for z in range(table.many)])
                    self.assertEqual(sum(found), all_rows(table, p, L))

    def test_no_steps(self):
        for table, _ in TABLES:
            for p in range(table.many):
                self.assertEqual(row_count(table, (p,), 0), 1)
                self.assertEqual(all_rows(table, p, 0), 1)
                self.assertEqual([rows_between(table, p, z, 0) for z in range(table.many)],
                                 [int(z == p) for z in range(table.many)])
        self.assertEqual(row_count(unlike_coats(3), (0, 1), 0), 0)

    def test_odd_and_too_few_steps(self):
        table = unlike_coats(3)
        row = tuple(at % 3 for at in range(200))
        for many in (1, 2, 3, 8, 41, 42, 200):
            for L in range(41):
                if L < many - 1 or (L - many + 1) % 2 == 1:
                    self.assertEqual(row_count(table, row[:many], L), 0)
                else:
                    self.assertEqual(row_count(table, row[:many], L), even_sum(2, many - 1, L))

    def test_40_steps_and_8_coats(self):
        begun = time.perf_counter()
        cycle = tuple(at % 8 for at in range(41))
        for q, table in ((8, all_coats(8)), (7, unlike_coats(8)), (2, ring_coats(8))):
            for m in (0, 2, 10, 38, 40):
                self.assertEqual(row_count(table, cycle[:m + 1], 40), even_sum(q, m, 40))
            self.assertEqual(row_count(table, cycle[:2], 39), even_sum(q, 1, 39))
            self.assertEqual(all_rows(table, 3, 40), q ** 40)
            self.assertEqual(sum(rows_between(table, 3, z, 40) for z in range(8)), q ** 40)
        self.assertEqual(rows_between(all_coats(8), 0, 5, 40), 8 ** 39)
        self.assertEqual(rows_between(ring_coats(8), 0, 3, 40), 0)
        self.assertLess(time.perf_counter() - begun, 5)

    def test_40_steps_on_a_line_of_coats(self):
        # The rests are tellingly few: each row from p to z has the one that goes straight.
        table = line_coats(8)
        counts = [int(coat == 2) for coat in range(8)]
        for L in range(41):
            for z in range(8):
                W = tuple(range(2, z + 1)) if z >= 2 else tuple(range(2, z - 1, -1))
                self.assertEqual(rows_between(table, 2, z, L), counts[z])
                self.assertEqual(row_count(table, W, L), counts[z])
            self.assertEqual(all_rows(table, 2, L), sum(counts))
            counts = [sum(counts[other] for other in (coat - 1, coat + 1) if 0 <= other < 8) for coat in range(8)]


class Errors(Case):

    def test_row_count(self):
        table = unlike_coats(3)
        self.refuses(BadSize, 0, row_count, table, (), -1)
        self.refuses(BadSize, 201, row_count, table, (9,) * 201, -1)
        self.refuses(BadStone, 0, row_count, table, (3, 0, 3), -1)
        self.refuses(BadStone, 3, row_count, table, (0, 1, 0, 0), -1)
        self.refuses(BadStone, 1, row_count, table, (0, -1), 2)
        self.refuses(NotStraight, 1, row_count, table, (0, 1, 0, 1, 0), -1)
        self.refuses(NotStraight, 2, row_count, table, (0, 1, 2, 1), 41)
        self.refuses(NotStraight, 198, row_count, table, tuple(at % 3 for at in range(199)) + (2,), 3)
        self.refuses(NotStraight, 1, row_count, all_coats(2), (0, 0, 0), 4)
        for L in (-1, 41, 10 ** 20, -10 ** 20):
            self.refuses(BadCount, L, row_count, table, (0,), L)
            self.refuses(BadCount, L, row_count, table, (0, 1, 2), L)
            self.refuses(BadCount, L, row_count, MIXED, (4,), L)

    def test_all_rows(self):
        table = unlike_coats(3)
        for p in (-1, 3, 10 ** 20, -3):
            self.refuses(BadCoat, p, all_rows, table, p, 3)
            self.refuses(BadCoat, p, all_rows, table, p, -1)
        for L in (-1, 41, 10 ** 20):
            self.refuses(BadCount, L, all_rows, table, 2, L)

    def test_rows_between(self):
        table = unlike_coats(3)
        for p in (-1, 3, 10 ** 20, -3):
            self.refuses(BadCoat, p, rows_between, table, p, 0, 3)
            self.refuses(BadCoat, p, rows_between, table, p, 5, 41)
            self.refuses(BadCoat, p, rows_between, table, 0, p, 3)
            self.refuses(BadCoat, p, rows_between, table, 0, p, -1)
        for L in (-1, 41, 10 ** 20):
            self.refuses(BadCount, L, rows_between, table, 2, 0, L)

    def test_coats_without_roads(self):
        self.assertEqual([row_count(MIXED, (4,), L) for L in range(4)], [1, 0, 0, 0])
        self.assertEqual([all_rows(MIXED, 4, L) for L in range(4)], [1, 0, 0, 0])
        self.assertEqual([rows_between(MIXED, 4, 4, L) for L in range(4)], [1, 0, 0, 0])
        self.assertEqual([rows_between(MIXED, 0, 4, L) for L in range(4)], [0, 0, 0, 0])


if __name__ == "__main__":
    unittest.main()
