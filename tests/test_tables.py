"""Tables: [1]."""

import itertools
import unittest

from betweencoats.errors import BadCount, BadSize, BadTable
from betweencoats.evenlots import even_lots
from betweencoats.nets import made_net
from betweencoats.tables import made_table
from betweencoats.tableshapes import all_coats, doubled, even_degree, line_coats, ring_coats, unlike_coats
from tests.plainly import MIXED, Case


def sound_tables(many):
    """Each table of many coats."""
    pairs = [(p, s) for p in range(many) for s in range(p, many)]
    for chosen in itertools.product((False, True), repeat=len(pairs)):
        rows = [set() for _ in range(many)]
        for (p, s), taken in zip(pairs, chosen):
            if taken:
                rows[p].add(s)
                rows[s].add(p)
        yield made_table(tuple(tuple(sorted(row)) for row in rows))


def even_ends(table, coat):
    """The coats at the ends of all rows of 0, 2, .. steps; rows of 2 * many steps are long enough."""
    ends = [{coat}]
    for _ in range(2 * table.many):
        ends.append({s for p in ends[-1] for s in table.beside[p]})
    return set().union(*ends[::2])


class MadeTables(Case):

    def test_keeps_its_rows(self):
        table = made_table(((1, 2), (0, 1), (0,)))
        self.assertEqual(table.many, 3)
        self.assertEqual(table.beside, ((1, 2), (0, 1), (0,)))
        self.assertIs(type(table.beside), tuple)
        self.assertEqual(made_table(rows=((),)).beside, ((),))

    def test_one_to_eight_rows(self):
        self.refuses(BadSize, 0, made_table, ())
        self.assertEqual(made_table(((),)).many, 1)
        self.assertEqual(made_table(((0,),)).many, 1)
        self.assertEqual(made_table(((),) * 8).many, 8)
        self.assertEqual(made_table((tuple(range(8)),) * 8).many, 8)
        self.refuses(BadSize, 9, made_table, ((),) * 9)
        self.refuses(BadSize, 10, made_table, ((),) * 10)

    def test_rows_ascend(self):
        self.refuses(BadTable, 0, made_table, ((1, 0), (0, 1)))
        self.refuses(BadTable, 1, made_table, ((0, 1), (1, 0)))
        self.refuses(BadTable, 0, made_table, ((0, 0),))
        self.refuses(BadTable, 2, made_table, ((1, 2), (0, 2), (0, 1, 1)))
        self.refuses(BadTable, 2, made_table, ((1, 2), (0, 2), (0, 1, 0)))

    def test_rows_name_coats(self):
        self.refuses(BadTable, 0, made_table, ((-1,),))
        self.refuses(BadTable, 0, made_table, ((-2, 0), ()))
        self.refuses(BadTable, 0, made_table, ((1,),))
        self.refuses(BadTable, 1, made_table, ((1,), (0, 2)))
        self.refuses(BadTable, 1, made_table, ((1,), (0, 10 ** 30)))
        self.refuses(BadTable, 1, made_table, ((), (-1,)))

    def test_roads_lead_both_ways(self):
        self.refuses(BadTable, 0, made_table, ((1,), ()))
        self.refuses(BadTable, 1, made_table, ((), (0,)))
        self.refuses(BadTable, 1, made_table, ((1, 2), (0, 2), (0,)))
        self.refuses(BadTable, 0, made_table, ((0, 1, 2), (0,), (2,)))

    def test_order_of_faults(self):
        # The number of rows comes first, then the form of all rows, then whether roads lead both ways.
        self.refuses(BadSize, 9, made_table, ((5, 1),) * 9)
        self.refuses(BadTable, 2, made_table, ((1,), (), (5,)))
        self.refuses(BadTable, 1, made_table, ((1,), (2, 0), (3,)))
        self.refuses(BadTable, 2, made_table, ((2,), (0, 2), (1, 0)))
        self.refuses(BadTable, 0, made_table, ((2,), (0, 2), (1,)))

    def test_all_small_rows(self):
        lists = [coats for size in range(4) for coats in itertools.product((-1, 0, 1, 2, 3), repeat=size)]
        for one, two in itertools.product(lists, repeat=2):
            rows = (one, two)
            form = [p for p in range(2) if list(rows[p]) != sorted(set(rows[p]) & {0, 1})]
            ways = form or [p for p in range(2) if any(p not in rows[s] for s in rows[p])]
            if ways:
                self.refuses(BadTable, ways[0], made_table, rows)
            else:
                self.assertEqual(made_table(rows).beside, rows)

    def test_equal(self):
        table = made_table(((1,), (0,)))
        self.assertTrue(table == made_table(((1,), (0,))))
        self.assertFalse(table != made_table(((1,), (0,))))
        self.assertTrue(table == unlike_coats(2))
        for other in (made_table(((0, 1), (0, 1))), made_table(((), ())), made_table(((1,), (0,), ()))):
            self.assertFalse(table == other)
            self.assertTrue(table != other)
        for other in (None, 2, "table", ((1,), (0,)), made_net(2, ((0, 1),))):
            self.assertIs(table == other, False)
            self.assertIs(other == table, False)
            self.assertIs(table != other, True)


class TableShapes(Case):

    def test_all_coats(self):
        self.refuses(BadCount, 0, all_coats, 0)
        self.assertEqual(all_coats(1).beside, ((0,),))
        self.assertEqual(all_coats(q=3).beside, ((0, 1, 2),) * 3)
        self.assertEqual(all_coats(8).beside, ((0, 1, 2, 3, 4, 5, 6, 7),) * 8)
        self.refuses(BadCount, 9, all_coats, 9)
        self.refuses(BadCount, -1, all_coats, -1)

    def test_unlike_coats(self):
        self.refuses(BadCount, 0, unlike_coats, 0)
        self.assertEqual(unlike_coats(1).beside, ((),))
        self.assertEqual(unlike_coats(q=3).beside, ((1, 2), (0, 2), (0, 1)))
        self.assertEqual(unlike_coats(8).beside, tuple(tuple(s for s in range(8) if s != p) for p in range(8)))
        self.refuses(BadCount, 9, unlike_coats, 9)
        self.refuses(BadCount, -1, unlike_coats, -1)

    def test_line_coats(self):
        self.refuses(BadCount, 0, line_coats, 0)
        self.assertEqual(line_coats(1).beside, ((),))
        self.assertEqual(line_coats(2).beside, ((1,), (0,)))
        self.assertEqual(line_coats(q=4).beside, ((1,), (0, 2), (1, 3), (2,)))
        self.assertEqual(line_coats(8).beside, ((1,), (0, 2), (1, 3), (2, 4), (3, 5), (4, 6), (5, 7), (6,)))
        self.refuses(BadCount, 9, line_coats, 9)
        self.refuses(BadCount, -1, line_coats, -1)

    def test_ring_coats(self):
        self.refuses(BadCount, 0, ring_coats, 0)
        self.refuses(BadCount, 2, ring_coats, 2)
        self.assertEqual(ring_coats(3).beside, ((1, 2), (0, 2), (0, 1)))
        self.assertEqual(ring_coats(q=4).beside, ((1, 3), (0, 2), (1, 3), (0, 2)))
        self.assertEqual(ring_coats(8).beside, (
            (1, 7), (0, 2), (1, 3), (2, 4), (3, 5), (4, 6), (5, 7), (0, 6)))
        self.refuses(BadCount, 9, ring_coats, 9)
        self.refuses(BadCount, -3, ring_coats, -3)

    def test_shapes_are_sound(self):
        for shape, least in ((all_coats, 1), (unlike_coats, 1), (line_coats, 1), (ring_coats, 3)):
            for q in range(least, 9):
                table = shape(q)
                self.assertEqual(table.many, q)
                self.assertTrue(table == made_table(table.beside))

    def test_doubled(self):
        self.assertEqual(doubled(made_table(((0, 1), (0,)))).beside, ((1, 3), (0, 2), (1,), (0,)))
        self.assertEqual(doubled(made_table(((),))).beside, ((), ()))
        self.assertEqual(doubled(all_coats(1)).beside, ((1,), (0,)))
        self.assertEqual(doubled(all_coats(4)).many, 8)
        self.refuses(BadSize, 10, doubled, all_coats(5))
        self.refuses(BadSize, 16, doubled, table=all_coats(8))

    def test_doubled_by_its_words(self):
        for table in [table for many in range(1, 4) for table in sound_tables(many)] + [unlike_coats(4)]:
            two = doubled(table)
            self.assertEqual(two.many, 2 * table.many)
            self.assertTrue(two == made_table(two.beside))
            for p in range(table.many):
                for side in range(2):
                    roads = tuple(2 * s + 1 - side for s in table.beside[p])
                    self.assertEqual(two.beside[2 * p + side], roads)

    def test_even_degree(self):
        self.assertEqual(even_degree(all_coats(5)), 5)
        self.assertEqual(even_degree(unlike_coats(5)), 4)
        self.assertEqual(even_degree(ring_coats(7)), 2)
        self.assertEqual(even_degree(table=line_coats(2)), 1)
        self.assertEqual(even_degree(line_coats(1)), 0)
        self.assertEqual(even_degree(made_table(((), (), ()))), 0)
        self.assertIsNone(even_degree(line_coats(3)))
        self.assertIsNone(even_degree(MIXED))
        self.assertIsNone(even_degree(made_table(((0,), ()))))
        self.assertIsNone(even_degree(made_table(((), (1,)))))
        self.assertIsNone(even_degree(made_table(((1,), (0, 1)))))


class EvenLots(Case):

    def test_lots(self):
        self.assertEqual(even_lots(table=made_table(((), (), ()))), (0, 1, 2))
        self.assertEqual(even_lots(made_table(((0,), (1,)))), (0, 1))
        self.assertEqual(even_lots(line_coats(2)), (0, 1))
        self.assertEqual(even_lots(line_coats(8)), (0, 1) * 4)
        self.assertEqual(even_lots(ring_coats(8)), (0, 1) * 4)
        self.assertEqual(even_lots(ring_coats(7)), (0,) * 7)
        self.assertEqual(even_lots(unlike_coats(3)), (0, 0, 0))
        self.assertEqual(even_lots(all_coats(2)), (0, 0))
        self.assertEqual(even_lots(MIXED), (0, 0, 0, 0, 4))
        self.assertEqual(even_lots(made_table(((), (3,), (2, 3), (1, 2)))), (0, 1, 1, 1))
        self.assertEqual(even_lots(made_table(((2,), (3,), (0,), (1,)))), (0, 1, 2, 3))

    def test_lots_by_their_words(self):
        for many in range(1, 5):
            for table in sound_tables(many):
                lots = tuple(min(even_ends(table, p)) for p in range(many))
                self.assertEqual(even_lots(table), lots)


if __name__ == "__main__":
    unittest.main()
