"""Rings counted: [32]."""

import itertools
import time
import unittest

from betweencoats.errors import BadCount
from betweencoats.ringcounts import ring_classes, straight_rings
from betweencoats.tables import made_table
from betweencoats.tableshapes import all_coats, doubled, line_coats, ring_coats, unlike_coats
from tests.plainly import MIXED, RING_CASES, Case, ring_cases


def straight_by_the_words(table, n):
    found = 0
    for row in itertools.product(range(table.many), repeat=n):
        ring = all(row[at] in table.beside[row[at - 1]] for at in range(n))
        found += ring and all(row[at - 1] != row[(at + 1) % n] for at in range(n))
    return found


class RingCounts(Case):

    def test_example(self):
        self.assertEqual([ring_classes(unlike_coats(3), n) for n in (3, 4, 5, 6)], [6, 1, 2, 7])
        self.assertEqual(ring_classes(table=unlike_coats(3), n=3), 6)
        self.assertEqual(straight_rings(table=unlike_coats(3), n=3), 6)

    def test_straight_rings_against_listings(self):
        for table, _ in RING_CASES:
            for n in range(1, 9 if table.many < 4 else 7):
                self.assertEqual(straight_rings(table, n), straight_by_the_words(table, n))

    def test_ring_classes_against_listings(self):
        for table, n, found in ring_cases():
            self.assertEqual(ring_classes(table, n), len(found))

    def test_doubled_tables(self):
        small = (unlike_coats(3), all_coats(2), all_coats(4), ring_coats(4), line_coats(3), unlike_coats(1),
                 made_table(((0, 1), (0,))), made_table(((1, 2), (0, 1, 2), (0, 1), ())))
        for table in small:
            for n in range(3, 41):
                wanted = 2 * ring_classes(table, n) if n % 2 == 0 else 0
                self.assertEqual(ring_classes(doubled(table), n), wanted)

    def test_few_stones(self):
        for table in (unlike_coats(3), all_coats(8), MIXED, made_table(((0,),)), made_table(((),))):
            self.assertEqual(straight_rings(table, 1), 0)
            self.assertEqual(straight_rings(table, 2), 0)
        self.assertEqual(straight_rings(all_coats(2), 3), 0)
        self.assertEqual(straight_rings(all_coats(2), 4), 4)
        self.assertEqual(ring_classes(made_table(((),)), 3), 0)
        self.assertEqual(ring_classes(made_table(((0,),)), 3), 1)
        self.assertEqual(ring_classes(made_table(((0,),)), 4), 1)

    def test_40_stones(self):
        begun = time.perf_counter()
        # In a ring of coats a straight ring goes one way or the other all the time.
        self.assertEqual(straight_rings(ring_coats(8), 40), 16)
        self.assertEqual(straight_rings(ring_coats(5), 40), 10)
        self.assertEqual(straight_rings(ring_coats(7), 40), 0)
        self.assertEqual(straight_rings(line_coats(8), 40), 0)
        self.assertEqual(ring_classes(line_coats(8), 40), 2)
        self.assertEqual(ring_classes(line_coats(8), 39), 0)
        # Each power of the step from thread to thread has this trace if each coat is beside all others.
        for q in (3, 4, 8):
            for n in (39, 40):
                # Eigenvalues of the table are q - 1 and, q - 1 times, -1.
                wanted = (q - 2) ** n + 1 + (q - 1) * lucas(-1, q - 2, n) + (q * (q - 3) // 2) * (1 + (-1) ** n)
                self.assertEqual(straight_rings(unlike_coats(q), n), wanted)
        ring_classes(all_coats(8), 40)
        self.assertLess(time.perf_counter() - begun, 10)

    def test_errors(self):
        for table in (unlike_coats(3), MIXED, made_table(((),))):
            for n in (0, 41, -1, 10 ** 20, -10 ** 20):
                self.refuses(BadCount, n, straight_rings, table, n)
                self.refuses(BadCount, n, ring_classes, table, n)
            for n in (1, 2):
                self.assertEqual(straight_rings(table, n), 0)
                self.refuses(BadCount, n, ring_classes, table, n)
            for n in (3, 40):
                straight_rings(table, n)
                ring_classes(table, n)


def lucas(s, p, n):
    """The sum of the powers n of the two numbers with the sum s and the product p."""
    one, two = 2, s
    for _ in range(n):
        one, two = two, s * two - p * one
    return one


if __name__ == "__main__":
    unittest.main()
