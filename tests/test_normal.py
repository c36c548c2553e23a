"""Normal rows and handing: [25]."""

import unittest

from betweencoats.errors import BadSize, BadStone
from betweencoats.netshapes import line_net
from betweencoats.normal import hand_run, normal
from betweencoats.tables import made_table
from betweencoats.tableshapes import all_coats, line_coats, ring_coats, unlike_coats
from betweencoats.worlds import made_world
from tests.plainly import MIXED, Case, after, deeds, rested, shortest_runs, table_rows

TABLES = (unlike_coats(3), line_coats(3), all_coats(2), MIXED, unlike_coats(2), made_table(((0,),)))


def normal_by_the_words(table, row):
    found = list(rested(row))
    while len(found) < len(row):
        found += [min(table.beside[found[-1]]), found[-1]]
    return tuple(found)


def hand_run_by_the_words(table, row):
    row, run, many = list(row), [], len(row)
    while True:
        turns = [at for at in range(1, many - 1) if row[at - 1] == row[at + 1]]
        if not turns:
            return tuple(run)
        end = many - 1
        for k in range(turns[0], end - 1):
            if row[k] != row[k + 2]:
                row[k] = row[k + 2]
                run.append((k, row[k]))
        least = min(table.beside[row[end]])
        if row[end - 1] != least:
            row[end - 1] = least
            run.append((end - 1, least))
        many -= 2


def long_rows(table, many):
    """Rows with so many stones that go this way and that."""
    for start in range(table.many):
        for pattern in ((1, 2), (1, 1, 2), (2, 3, 5, 7, 11), (1, 0, 0), (3, 1, 4, 1, 5, 9, 2, 6, 5), (1,), (0,)):
            row = (start,)
            while len(row) < many and table.beside[row[-1]]:
                roads = table.beside[row[-1]]
                row += (roads[pattern[len(row) % len(pattern)] % len(roads)],)
            if len(row) == many:
                yield row


class Normal(Case):

    def test_examples(self):
        table = unlike_coats(3)
        self.assertEqual(normal(table=table, row=(0, 1, 0, 2)), (0, 2, 0, 2))
        self.assertEqual(normal(table, (0, 1, 0, 1, 2)), (0, 1, 2, 0, 2))
        self.assertEqual(hand_run(table=table, row=(0, 1, 0, 2)), ((1, 2),))
        self.assertEqual(hand_run(table, (0, 1, 0, 1, 2)), ((2, 2), (3, 0)))

    def test_one_stone(self):
        # Coat 4 has no road.
        for coat in range(5):
            self.assertEqual(normal(MIXED, (coat,)), (coat,))
            self.assertEqual(hand_run(MIXED, (coat,)), ())

    def test_by_the_words(self):
        for table in TABLES:
            for many in range(1, 8):
                for row in table_rows(table, many):
                    self.assertEqual(normal(table, row), normal_by_the_words(table, row))
                    self.assertEqual(len(normal(table, row)), many)
                    self.assertEqual(hand_run(table, row), hand_run_by_the_words(table, row))
                    self.check_run(table, row)

    def check_run(self, table, row):
        world = made_world(table, line_net(len(row)), pegs=tuple(sorted({0, len(row) - 1})))
        state, run = row, hand_run(table, row)
        for deed in run:
            self.assertIn(deed, deeds(world, state))
            state = after(state, deed)
        self.assertEqual(state, normal(table, row))
        self.assertLess(len(run), 150)

    def test_one_comes_of_the_other_just_if_normal_rows_are_equal(self):
        for table in TABLES:
            for many in (1, 2, 3, 4, 5, 6):
                world = made_world(table, line_net(many), pegs=tuple(sorted({0, many - 1})))
                found = {}
                for row in table_rows(table, many):
                    found.setdefault(normal(table, row), []).append(row)
                for rows in found.values():
                    self.assertEqual(rows, sorted(shortest_runs(world, rows[0])))

    def test_rows_of_24_stones(self):
        tables = TABLES + (unlike_coats(8), all_coats(8), ring_coats(5))
        lengths = []
        for table in tables:
            for many in (23, 24):
                for row in long_rows(table, many):
                    self.assertEqual(hand_run(table, row), hand_run_by_the_words(table, row))
                    self.check_run(table, row)
                    lengths.append(len(hand_run(table, row)))
        self.assertGreater(max(lengths), 50)

    def test_rows_of_25_stones(self):
        for many in (25, 26, 199, 200):
            for table in (unlike_coats(3), all_coats(8), MIXED):
                for row in long_rows(table, many):
                    self.assertEqual(normal(table, row), normal_by_the_words(table, row))
                    self.assertEqual(len(normal(table, row)), many)
                    self.refuses(BadSize, many, hand_run, table, row)

    def test_errors(self):
        table = unlike_coats(3)
        for call in (normal, hand_run):
            self.refuses(BadSize, 0, call, table, ())
            self.refuses(BadSize, 201, call, table, (0, 1) * 100 + (0,))
            self.refuses(BadSize, 201, call, table, (9,) * 201)
            self.refuses(BadStone, 0, call, table, (3,))
            self.refuses(BadStone, 0, call, table, (-1, 0))
            self.refuses(BadStone, 1, call, table, (0, 0, 3))
            self.refuses(BadStone, 1, call, table, (0, 3, 0))
            self.refuses(BadStone, 2, call, table, (0, 1, -1))
            self.refuses(BadStone, 3, call, table, (0, 1, 2, 2, 9))
            self.refuses(BadStone, 1, call, MIXED, (4, 4))
            # The stones come ahead of a row too long for a net.
            self.refuses(BadStone, 199, call, table, (0, 1) * 99 + (0, 10 ** 20))
            self.refuses(BadStone, 24, call, table, (0, 1) * 12 + (1,))


if __name__ == "__main__":
    unittest.main()
