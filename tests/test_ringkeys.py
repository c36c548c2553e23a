"""Rings and their keys: [31]."""

import unittest

from betweencoats.errors import BadSize, BadStone
from betweencoats.evenlots import even_lots
from betweencoats.ringkeys import ring_key
from betweencoats.ringleast import ring_least
from betweencoats.ringsizes import ring_class_size
from betweencoats.tableshapes import all_coats, unlike_coats
from tests.plainly import Case, rested, ring_cases


def core_by_the_words(row):
    """The tail and the core of a row, as [6] tells them."""
    left = list(rested(row))
    tail = [left[0]]
    while len(left) > 2 and left[1] == left[-2]:
        left = left[1:-1]
        tail.append(left[0])
    return tuple(tail), tuple(left)


def key_by_the_words(table, ring):
    n = len(ring)
    if all(ring[(at + 1) % n] != ring[at - 1] for at in range(n)):
        return 2, ring
    tail, core = core_by_the_words(ring + (ring[0],))
    m = len(core) - 1
    if m == 0:
        return 0, (even_lots(table)[ring[0]],)
    readings = [tuple(core[(j + i) % m] for i in range(m)) for j in range(2 * m) if (len(tail) - 1 + j) % 2 == 0]
    return 1, min(readings)


def bad_rings(test, call, *more):
    """What every function of a ring refuses, with the ring behind the table."""
    table = unlike_coats(3)
    for many in (0, 1, 2, 25, 26, 200):
        test.refuses(BadSize, many, call, table, (0, 1) * (many // 2) + (9,) * (many % 2), *more)
        test.refuses(BadSize, many, call, table, (-1,) * many, *more)
    test.refuses(BadStone, 0, call, table, (3, 1, 0), *more)
    test.refuses(BadStone, 0, call, table, (-1, -1, 0), *more)
    test.refuses(BadStone, 1, call, table, (0, 0, 5), *more)
    test.refuses(BadStone, 1, call, table, (0, 10 ** 20, 5), *more)
    test.refuses(BadStone, 2, call, table, (0, 1, 0), *more)
    test.refuses(BadStone, 3, call, table, (0, 1, 2, 0), *more)
    test.refuses(BadStone, 2, call, table, (0, 1, 1, 0), *more)
    test.refuses(BadStone, 23, call, table, (0, 1, 2) * 7 + (0, 1, 0), *more)
    test.refuses(BadStone, 0, call, all_coats(1), (1, 0, 0), *more)


class RingKeys(Case):

    def test_example(self):
        self.assertEqual(ring_key(unlike_coats(3), (0, 1, 2, 0, 1)), (1, (0, 1, 2)))
        self.assertEqual(ring_key(table=unlike_coats(3), ring=(0, 1, 2, 0, 1)), (1, (0, 1, 2)))

    def test_by_hand(self):
        table = unlike_coats(3)
        self.assertEqual(ring_key(table, (1, 2, 0)), (2, (1, 2, 0)))
        self.assertEqual(ring_key(table, (2, 1, 2, 0)), (0, (0,)))
        self.assertEqual(ring_key(all_coats(2), (1, 1, 0)), (1, (1,)))
        self.assertEqual(ring_key(all_coats(2), (1, 1, 1)), (1, (1,)))
        self.assertEqual(ring_key(all_coats(2), (1, 0, 0)), (1, (0,)))
        self.assertEqual(ring_key(all_coats(2), (1, 0, 0, 1, 1, 0)), (1, (0, 1, 1, 0)))
        self.assertEqual(ring_key(unlike_coats(2), (1, 0, 1, 0)), (0, (1,)))
        self.assertEqual(ring_key(unlike_coats(2), (0, 1, 0, 1)), (0, (0,)))
        # A core of four steps: only every second reading.
        table = unlike_coats(4)
        self.assertEqual(ring_key(table, (3, 2, 1, 0, 1, 0)), (1, (1, 0, 3, 2)))
        self.assertEqual(ring_key(table, (0, 1, 0, 3, 2, 1)), (1, (0, 3, 2, 1)))

    def test_by_the_words(self):
        for table, _, found in ring_cases():
            for members in found:
                for ring in members:
                    self.assertEqual(ring_key(table, ring), key_by_the_words(table, ring))

    def test_equal_just_where_a_search_leads(self):
        kinds = set()
        for table, _, found in ring_cases():
            known = {}
            for members in found:
                keys = {ring_key(table, ring) for ring in members}
                self.assertEqual(len(keys), 1)
                self.assertNotIn(min(keys), known)
                known[min(keys)] = members
                kinds.add((min(keys)[0], len(min(keys)[1])))
        self.assertLessEqual({(0, 1), (1, 1), (1, 3), (1, 4), (1, 5), (1, 6), (1, 8), (2, 3), (2, 9)}, kinds)

    def test_turned_by_two_places(self):
        for table, _, found in ring_cases():
            for members in found:
                for ring in members[::5]:
                    kind, told = ring_key(table, ring)
                    if kind < 2:
                        self.assertEqual(ring_key(table, ring[2:] + ring[:2]), (kind, told))

    def test_turned_by_one_place(self):
        some = 0
        for table, _, found in ring_cases():
            for members in found:
                for ring in members[::5]:
                    kind, told = ring_key(table, ring)
                    if kind == 1 and len(told) % 2 == 1:
                        self.assertEqual(ring_key(table, ring[1:] + ring[:1]), (1, told))
                        some += 1
        self.assertGreater(some, 100)
        table = unlike_coats(4)
        self.assertNotEqual(ring_key(table, (0, 1, 2, 3, 2, 3)), ring_key(table, (1, 2, 3, 2, 3, 0)))

    def test_ring_and_ring(self):
        kinds = set()
        for table, _, found in ring_cases():
            for members in found:
                for ring in members[::5]:
                    kind, told = ring_key(table, ring)
                    kinds.add((kind, len(told) > 1))
                    wanted = (kind, told)
                    if kind == 2:
                        wanted = (2, ring + ring)
                    elif kind == 1:
                        wanted = (0, (even_lots(table)[ring[0]],)) if len(told) == 1 else (1, told + told)
                    self.assertEqual(ring_key(table, ring + ring), wanted)
        self.assertEqual(kinds, {(0, False), (1, False), (1, True), (2, True)})

    def test_24_stones(self):
        table = unlike_coats(3)
        self.assertEqual(ring_key(table, (0, 1, 2) * 8), (2, (0, 1, 2) * 8))
        self.assertEqual(ring_key(table, (2, 1) * 12), (0, (0,)))
        self.assertEqual(ring_key(table, (0, 1) + (0, 1, 2) * 7 + (1,)), (1, (0, 1, 2) * 6))

    def test_errors(self):
        for call in (ring_key, ring_class_size):
            bad_rings(self, call)
        bad_rings(self, ring_least, ())
        bad_rings(self, ring_least, (0, 1, 0, 1))

    def test_errors_of_a_second_ring(self):
        def second(table, ring):
            return ring_least(table, (0, 0, 0) if table == all_coats(1) else (0, 1, 2), ring)

        bad_rings(self, second)


if __name__ == "__main__":
    unittest.main()
