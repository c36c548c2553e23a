"""Numbers of rows: [28]."""

import time
import unittest

from betweencoats.errors import BadCount, BadRank, BadSize, BadStone, NotStraight
from betweencoats.evencounts import even_count
from betweencoats.ranks import nth_row, rank_of
from betweencoats.rowcounts import row_count
from betweencoats.tables import made_table
from betweencoats.tableshapes import all_coats, line_coats, ring_coats, unlike_coats
from tests.plainly import MIXED, Case, rested, straight_rows, table_rows

TABLES = (
    (unlike_coats(3), 8), (line_coats(3), 9), (all_coats(2), 8), (MIXED, 7), (ring_coats(5), 8), (unlike_coats(2), 8),
    (made_table(((0,),)), 7), (made_table(((),)), 3), (all_coats(3), 6), (made_table(((1, 2), (0, 1), (0,))), 8))


class Ranks(Case):

    def test_examples(self):
        table = line_coats(3)
        self.assertEqual(nth_row(table, (1,), 2, 0), (1, 0, 1))
        self.assertEqual(nth_row(table=table, W=(1,), L=2, n=1), (1, 2, 1))
        self.refuses(BadRank, 2, nth_row, table, (1,), 2, 2)
        self.assertEqual(rank_of(table, (1, 2, 1)), 1)
        self.assertEqual(rank_of(table=table, row=(1, 0, 1)), 0)

    def test_against_listings(self):
        for table, most in TABLES:
            for L in range(most):
                found = {}
                for row in table_rows(table, L + 1):
                    found.setdefault(rested(row), []).append(row)
                for W, rows in found.items():
                    for n, row in enumerate(rows):
                        self.assertEqual(nth_row(table, W, L, n), row)
                        self.assertEqual(rank_of(table, row), n)
                    for n in (-1, len(rows), len(rows) + 1, -len(rows), 10 ** 30):
                        self.refuses(BadRank, n, nth_row, table, W, L, n)

    def test_no_rows(self):
        table = unlike_coats(3)
        for W, L in (((0, 1), 0), ((0, 1), 2), ((0,), 1), ((0, 1, 2), 1), (tuple(at % 3 for at in range(200)), 39)):
            for n in (0, 1, -1):
                self.refuses(BadRank, n, nth_row, table, W, L, n)
        self.assertEqual(nth_row(MIXED, (4,), 0, 0), (4,))
        self.refuses(BadRank, 0, nth_row, MIXED, (4,), 2, 0)
        self.assertEqual(rank_of(MIXED, (4,)), 0)

    def test_each_the_way_back_of_the_other_with_40_steps_and_8_coats(self):
        begun = time.perf_counter()
        for table in (all_coats(8), unlike_coats(8), ring_coats(8), line_coats(8)):
            for m in (0, 2, 7, 20, 39, 40):
                W = straight_of(table, m)
                if W is not None:
                    L = 40 if m % 2 == 0 else 39
                    many = row_count(table, W, L)
                    for n in {min(n, many - 1) for n in (0, 1, many // 3, many // 2, max(0, many - 2), many - 1)}:
                        row = nth_row(table, W, L, n)
                        self.assertEqual((len(row), rested(row)), (L + 1, W))
                        self.assertEqual(rank_of(table, row), n)
                    self.refuses(BadRank, many, nth_row, table, W, L, many)
                    self.refuses(BadRank, -1, nth_row, table, W, L, -1)
        self.assertLess(time.perf_counter() - begun, 10)

    def test_the_first_and_the_last_of_40_steps(self):
        table = all_coats(8)
        many = even_count(8, 0, 40)
        self.assertEqual(nth_row(table, (0,), 40, 0), (0,) * 41)
        self.assertEqual(nth_row(table, (0,), 40, many - 1), (0,) + (7,) * 39 + (0,))
        self.assertEqual(rank_of(table, (0,) + (7,) * 39 + (0,)), many - 1)
        self.assertEqual(rank_of(table, (5,) + (0,) * 40), 0)

    def test_ascending(self):
        table = unlike_coats(4)
        many = row_count(table, (0, 3, 1), 12)
        rows = [nth_row(table, (0, 3, 1), 12, n) for n in range(0, many, 97)]
        self.assertEqual(rows, sorted(set(rows)))
        self.assertGreater(len(rows), 50)


def straight_of(table, steps):
    """A straight row with so many steps, if there is one."""
    if steps < 8:
        found = straight_rows(table, 1)
        for _ in range(steps):
            found = [row + (coat,) for row in found for coat in table.beside[row[-1]] if row[-2:-1] != (coat,)][:50]
        return found[0] if found else None
    row = (0,)
    while len(row) <= steps:
        roads = [coat for coat in table.beside[row[-1]] if row[-2:-1] != (coat,)]
        if not roads:
            return None
        row += (roads[len(row) % len(roads)],)
    return row


class Errors(Case):

    def test_nth_row(self):
        table = unlike_coats(3)
        self.refuses(BadSize, 0, nth_row, table, (), -1, -1)
        self.refuses(BadSize, 201, nth_row, table, (9,) * 201, -1, -1)
        self.refuses(BadStone, 0, nth_row, table, (3, 0, 3), -1, -1)
        self.refuses(BadStone, 3, nth_row, table, (0, 1, 0, 0), -1, -1)
        self.refuses(NotStraight, 1, nth_row, table, (0, 1, 0, 1), -1, -1)
        self.refuses(NotStraight, 2, nth_row, table, (0, 1, 2, 1), 41, -1)
        for L in (-1, 41, 10 ** 20):
            self.refuses(BadCount, L, nth_row, table, (0,), L, -1)
            self.refuses(BadCount, L, nth_row, table, (0, 1), L, 0)
        self.refuses(BadRank, -1, nth_row, table, (0,), 40, -1)

    def test_rank_of(self):
        table = unlike_coats(3)
        self.refuses(BadSize, 0, rank_of, table, ())
        self.refuses(BadSize, 201, rank_of, table, (9,) * 201)
        self.refuses(BadStone, 0, rank_of, table, (-1,))
        self.refuses(BadStone, 2, rank_of, table, (0, 1, 1))
        self.refuses(BadStone, 41, rank_of, table, (0, 1) * 20 + (0, 3))
        self.refuses(BadStone, 199, rank_of, table, (0, 1) * 99 + (0, 0))
        for many in (42, 43, 199, 200):
            self.refuses(BadCount, many - 1, rank_of, table, tuple(at % 3 for at in range(many)))
            self.refuses(BadCount, many - 1, rank_of, all_coats(1), (0,) * many)
        self.assertEqual(rank_of(table, tuple(at % 3 for at in range(41))), 0)
        self.assertEqual(rank_of(table, (0, 1) * 20 + (0,)), 0)


if __name__ == "__main__":
    unittest.main()
