"""The size of a ring's class: [34]."""

import time
import unittest

from betweencoats.ringkeys import ring_key
from betweencoats.ringsizes import ring_class_size
from betweencoats.rowcounts import rows_between
from betweencoats.tableshapes import all_coats, ring_coats, unlike_coats
from tests.plainly import Case, ring_cases


class RingSizes(Case):

    def test_examples(self):
        self.assertEqual(ring_class_size(unlike_coats(3), (0, 1, 0, 1)), 18)
        self.assertEqual(ring_class_size(unlike_coats(3), (0, 1, 2, 0, 1)), 15)
        self.assertEqual(ring_class_size(table=unlike_coats(3), ring=(0, 1, 2, 0, 1)), 15)

    def test_against_a_search(self):
        kinds = set()
        for table, n, found in ring_cases():
            for members in found:
                kind, told = ring_key(table, members[0])
                kinds.add((kind, len(told), n - len(told)))
                for ring in members[::max(1, len(members) // 4)]:
                    self.assertEqual(ring_class_size(table, ring), len(members))
        # Cores of one step, of an odd and of an even number of steps, read again after fewer steps, too.
        self.assertLessEqual({(0, 1, 3), (1, 1, 6), (1, 3, 4), (1, 4, 4), (1, 5, 2), (1, 6, 2), (1, 8, 2)}, kinds)

    def test_fast(self):
        for ring in ((0, 1, 2), (0, 1, 2) * 2, (0, 1, 2) * 8):
            self.assertEqual(ring_class_size(unlike_coats(3), ring), 1)

    def test_one_class_of_all(self):
        # Of two coats beside one another there is one class for each side.
        for n in range(4, 25, 2):
            self.assertEqual(ring_class_size(unlike_coats(2), (0, 1) * (n // 2)), 1)
            self.assertEqual(ring_class_size(all_coats(1), (0,) * n), 1)
            self.assertEqual(ring_class_size(all_coats(1), (0,) * (n - 1)), 1)

    def test_24_stones(self):
        begun = time.perf_counter()
        # Four coats in a ring: all rings of no turn round it, by their number of steps forwards.
        table = ring_coats(8)
        forth_and_back = ring_class_size(table, (0, 1) * 12)
        round_it = ring_class_size(table, tuple(range(8)) + (0, 1) * 8)
        round_back = ring_class_size(table, tuple(range(7, -1, -1)) + (7, 6) * 8)
        twice = ring_class_size(table, tuple(range(8)) * 2 + (0, 1) * 4)
        thrice = 16
        self.assertEqual(round_it, round_back)
        everything = sum(rows_between(table, p, p, 24) for p in range(8))
        self.assertEqual(2 * forth_and_back + 4 * round_it + 4 * twice + thrice, everything)
        self.assertEqual(twice, 4 * 10626)
        for table in (all_coats(8), unlike_coats(8)):
            for ring in (tuple(range(8)) * 3, (0, 1) * 12, (0, 1, 2, 3, 4) + (5, 6) * 9 + (7,), (0, 1, 2) + (3, 1) * 10):
                self.assertGreater(ring_class_size(table, ring), 0)
        self.assertEqual(ring_class_size(all_coats(8), (0,) * 23), ring_class_size(all_coats(8), (0,) * 20 + (5, 0, 5)))
        self.assertLess(time.perf_counter() - begun, 5)


if __name__ == "__main__":
    unittest.main()
