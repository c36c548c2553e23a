"""Even tables, and how many classes: [27]."""

import math
import time
import unittest

from betweencoats.classcounts import classes_between
from betweencoats.errors import BadCoat, BadCount
from betweencoats.evencounts import even_count
from betweencoats.rowcounts import row_count
from betweencoats.tables import made_table
from betweencoats.tableshapes import all_coats, even_degree, line_coats, ring_coats, unlike_coats
from tests.plainly import MIXED, Case, rested, straight_rows, table_rows

TABLES = (
    (unlike_coats(3), 8), (line_coats(3), 9), (all_coats(2), 9), (MIXED, 7), (ring_coats(5), 8), (unlike_coats(2), 8),
    (made_table(((0,),)), 7), (made_table(((),)), 7), (unlike_coats(1), 5), (all_coats(3), 6),
    (made_table(((1, 2), (0, 1), (0,))), 8))


def even_tables():
    """Tables in which each coat has as many roads, 2 to 8."""
    return [all_coats(q) for q in range(2, 9)] + [unlike_coats(q) for q in range(3, 9)] + [ring_coats(5), ring_coats(8)]


def even_sum(q, m, L):
    """The document's sum, term by term."""
    if m > L or (L - m) % 2 == 1:
        return 0
    total = 0
    for j in range((L - m) // 2 + 1):
        total += (math.comb(L, j) - (math.comb(L, j - 1) if j else 0)) * (q - 1) ** j
    return total


class EvenCounts(Case):

    def test_examples(self):
        self.assertEqual(even_count(3, 0, 4), 15)
        self.assertEqual(even_count(q=3, m=0, L=4), 15)

    def test_is_row_count_of_even_tables(self):
        for table in even_tables():
            q = even_degree(table)
            # A straight row: in each table so made, p and the next coat take turns with a third one or a loop.
            longest = longest_straight(table, 9)
            for m in range(10):
                for L in range(10):
                    self.assertEqual(even_count(q, m, L), row_count(table, longest[:m + 1], L))

    def test_by_the_sum(self):
        for q in range(2, 9):
            for m in range(41):
                for L in range(41):
                    self.assertEqual(even_count(q, m, L), even_sum(q, m, L))

    def test_bounds(self):
        self.assertEqual(even_count(2, 0, 0), 1)
        self.assertEqual(even_count(8, 40, 40), 1)
        self.assertEqual(even_count(8, 40, 39), 0)
        self.assertEqual(even_count(8, 39, 40), 0)
        for q in (1, 9, 0, -2, 10 ** 20):
            self.refuses(BadCount, q, even_count, q, 3, 3)
            self.refuses(BadCount, q, even_count, q, 41, 3)
            self.refuses(BadCount, q, even_count, q, 3, -1)
            self.refuses(BadCount, q, even_count, q, -5, 99)
        for bad in (-1, 41, 10 ** 20, -10 ** 20):
            for q in (2, 8):
                self.refuses(BadCount, bad, even_count, q, bad, 3)
                self.refuses(BadCount, bad, even_count, q, 3, bad)
                self.refuses(BadCount, bad, even_count, q, bad, 1000)
                self.refuses(BadCount, 1000, even_count, q, 1000, bad)


def longest_straight(table, steps):
    """Some straight row with so many steps."""
    row = (0,)
    for _ in range(steps):
        row += (min(coat for coat in table.beside[row[-1]] if row[-2:-1] != (coat,)),)
    return row


class ClassesBetween(Case):

    def test_examples(self):
        table = unlike_coats(3)
        self.assertEqual(classes_between(table, 0, 0, 3), 2)
        self.assertEqual(classes_between(table, 0, 0, 4), 1)
        self.assertEqual(classes_between(table=table, p=0, z=0, L=0), 1)
        self.assertEqual(classes_between(table, 0, 1, 0), 0)

    def test_against_listings_of_rests(self):
        for table, most in TABLES:
            for L in range(most):
                rests = {rested(row) for row in table_rows(table, L + 1)}
                for p in range(table.many):
                    for z in range(table.many):
                        wanted = sum(row[0] == p and row[-1] == z for row in rests)
                        self.assertEqual(classes_between(table, p, z, L), wanted)

    def test_is_how_many_straight_rows_there_are(self):
        for table, most in TABLES:
            straight = [row for many in range(1, most + 1) for row in straight_rows(table, many)]
            for p in range(table.many):
                if table.beside[p]:
                    for z in range(table.many):
                        ends = [len(row) - 1 for row in straight if row[0] == p and row[-1] == z]
                        for L in range(most):
                            wanted = sum(steps <= L and (L - steps) % 2 == 0 for steps in ends)
                            self.assertEqual(classes_between(table, p, z, L), wanted)

    def test_a_coat_without_roads(self):
        self.assertEqual([classes_between(MIXED, 4, 4, L) for L in range(41)], [1] + [0] * 40)
        self.assertEqual([classes_between(MIXED, 4, 0, L) for L in range(41)], [0] * 41)
        self.assertEqual([classes_between(MIXED, 0, 4, L) for L in range(41)], [0] * 41)

    def test_40_steps(self):
        begun = time.perf_counter()
        self.assertEqual(classes_between(line_coats(8), 2, 6, 40), 1)
        self.assertEqual(classes_between(line_coats(8), 2, 5, 40), 0)
        # In a table of one closed way: none, or one way or the other round.
        self.assertEqual(classes_between(ring_coats(8), 0, 0, 40), 11)
        self.assertEqual(classes_between(ring_coats(5), 0, 0, 40), 9)
        # With q roads at each coat there are q * (q - 1) ** (m - 1) straight rows of m steps from each coat.
        for table, q in ((all_coats(8), 8), (unlike_coats(8), 7)):
            for L in (39, 40):
                wanted = sum(q * (q - 1) ** (m - 1) if m else 1 for m in range(L % 2, L + 1, 2))
                self.assertEqual(sum(classes_between(table, 3, z, L) for z in range(8)), wanted)
        self.assertLess(time.perf_counter() - begun, 5)

    def test_errors(self):
        table = unlike_coats(3)
        for p in (-1, 3, 10 ** 20, -3):
            self.refuses(BadCoat, p, classes_between, table, p, 0, 3)
            self.refuses(BadCoat, p, classes_between, table, p, 9, 3)
            self.refuses(BadCoat, p, classes_between, table, p, 9, 41)
            self.refuses(BadCoat, p, classes_between, table, p, 0, -1)
            self.refuses(BadCoat, p, classes_between, table, 0, p, 3)
            self.refuses(BadCoat, p, classes_between, table, 0, p, 41)
        for L in (-1, 41, 10 ** 20, -10 ** 20):
            self.refuses(BadCount, L, classes_between, table, 2, 0, L)
            self.refuses(BadCount, L, classes_between, MIXED, 4, 4, L)


if __name__ == "__main__":
    unittest.main()
