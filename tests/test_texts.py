"""Texts: [42]."""

import itertools
import unittest

from betweencoats.errors import (
    BadCount, BadDeed, BadNet, BadPegs, BadSize, BadTable, BadText, Parted)
from betweencoats.nets import made_net
from betweencoats.netshapes import grid_net, line_net, ring_net, star_net
from betweencoats.rowtext import row_of, row_text, run_of, run_text
from betweencoats.tables import made_table
from betweencoats.tableshapes import all_coats, line_coats, unlike_coats
from betweencoats.worlds import World, made_world
from betweencoats.worldtext import text_of_world, world_of
from tests.plainly import BOW, EYE, KITE, MIXED, Case, small_worlds

BAD_WORDS = (
    "", "00", "01", "000", "007", "1000", "9999", "0000", "-1", "+1", "-0", "a", "1a", "a1", "1.0", "1_0", "0x1", "1:2",
    "1,2", "\t1", "1\t", "1\n", "\n", "\r1", "\u0661", "\u00b2", "\uff11", "12\u0663", " ", "one", "1e2", ":", "1;2")
EXAMPLE = "coat 1\ncoat 0\nnet 2\nthread 0 1\npegs 0"


class RowTexts(Case):

    def test_there_and_back(self):
        for numbers in ((0,), (999,), (0, 0), (1, 20, 300), (10, 100, 9, 99), (5,) * 200, tuple(range(200))):
            text = " ".join(str(number) for number in numbers)
            self.assertEqual(row_text(numbers=numbers), text)
            self.assertEqual(row_of(text=text), numbers)
        for number in range(1000):
            self.assertEqual(row_of(row_text((number,))), (number,))
            self.assertEqual(row_text((number,)), str(number))

    def test_what_is_no_text(self):
        for bad in BAD_WORDS:
            if " " not in bad:
                self.refuses(BadText, 0, row_of, bad)
                self.refuses(BadText, 0, row_of, bad + " 1")
                self.refuses(BadText, 1, row_of, "1 " + bad)
                self.refuses(BadText, 2, row_of, "1 0 " + bad + " x")
        self.refuses(BadText, 0, row_of, "")
        self.refuses(BadText, 0, row_of, " ")
        self.refuses(BadText, 0, row_of, " 1")
        self.refuses(BadText, 1, row_of, "1 ")
        self.refuses(BadText, 1, row_of, "1  2")
        self.refuses(BadText, 1, row_of, "1 2\n")
        self.refuses(BadText, 0, row_of, "1\n2")
        self.refuses(BadText, 0, row_of, "1\t2")

    def test_200_and_201_words(self):
        self.assertEqual(row_of(" ".join("7" * 200)), (7,) * 200)
        for many in (201, 202, 1000):
            self.refuses(BadText, 200, row_of, " ".join("7" * many))
            self.refuses(BadSize, many, row_text, (7,) * many)
            self.refuses(BadSize, many, row_text, (-1,) * many)
        # A bad word is told first, also behind the 200th.
        self.refuses(BadText, 300, row_of, " ".join("7" * 300) + " x")
        self.refuses(BadText, 200, row_of, " ".join("7" * 200) + " 00")
        self.refuses(BadSize, 0, row_text, ())

    def test_numbers(self):
        for bad in (-1, 1000, 10 ** 30, -10 ** 30):
            self.refuses(BadCount, bad, row_text, (bad,))
            self.refuses(BadCount, bad, row_text, (0, 999, bad, -5))


class RunTexts(Case):

    def test_there_and_back(self):
        for run, text in (((), ""), (((0, 0),), "0:0"), (((1, 2), (3, 0)), "1:2 3:0"), (((999, 10), (10, 999)), "999:10 10:999"),
                          (((5, 6),) * 600, " ".join(["5:6"] * 600))):
            self.assertEqual(run_text(run=run), text)
            self.assertEqual(run_of(text=text), run)

    def test_what_is_no_text(self):
        bad = [f"{word}:1" for word in BAD_WORDS if " " not in word] + [f"1:{word}" for word in BAD_WORDS if " " not in word]
        bad += ["1", "0", "1:", ":1", ":", "1::2", "1:2:3", "1:2:", ":1:2", "1-2", "1;2", "x"]
        for word in bad:
            self.refuses(BadText, 0, run_of, word)
            self.refuses(BadText, 0, run_of, word + " 1:2")
            self.refuses(BadText, 1, run_of, "1:2 " + word)
            self.refuses(BadText, 2, run_of, "1:2 0:0 " + word + " x")
        self.refuses(BadText, 0, run_of, " ")
        self.refuses(BadText, 0, run_of, "\n")
        self.refuses(BadText, 0, run_of, " 1:2")
        self.refuses(BadText, 1, run_of, "1:2 ")
        self.refuses(BadText, 1, run_of, "1:2  1:2")
        self.refuses(BadText, 0, run_of, "1:2\n1:2")
        self.refuses(BadText, 0, run_of, "1 :2")

    def test_600_and_601_deeds(self):
        for many in (601, 602, 1000):
            self.refuses(BadText, 600, run_of, " ".join(["1:2"] * many))
            self.refuses(BadSize, many, run_text, ((1, 2),) * many)
            self.refuses(BadSize, many, run_text, ((-1, 2),) * many)
        self.refuses(BadText, 700, run_of, " ".join(["1:2"] * 700) + " 1:02")
        self.refuses(BadText, 3, run_of, "1:2 1:2 1:2 1 " + " ".join(["1:2"] * 700))

    def test_numbers(self):
        self.assertEqual(run_text(((0, 999), (999, 0))), "0:999 999:0")
        for bad in (-1, 1000, 10 ** 30):
            for deed in ((bad, 0), (0, bad), (bad, bad)):
                self.refuses(BadDeed, 0, run_text, (deed,))
                self.refuses(BadDeed, 2, run_text, ((0, 0), (999, 999), deed, (-1, -1)))


def worlds():
    yield from small_worlds()
    yield made_world(made_table(((),)), line_net(1))
    yield made_world(made_table(((), (1,), ())), line_net(1), pegs=(0,))
    yield made_world(all_coats(8), star_net(24), pegs=tuple(range(24)))
    yield made_world(MIXED, grid_net(6, 4), pegs=(0, 10, 23))
    yield made_world(line_coats(8), made_net(12, tuple(itertools.combinations(range(12), 2))[:60]), pegs=(11,))


class WorldTexts(Case):

    def test_example(self):
        world = made_world(unlike_coats(2), line_net(2), pegs=(0,))
        self.assertEqual(text_of_world(world=world), EXAMPLE)
        self.assertEqual(world_of(text=EXAMPLE), world)
        self.assertIsInstance(world_of(EXAMPLE), World)

    def test_by_hand(self):
        self.assertEqual(text_of_world(made_world(made_table(((),)), line_net(1))), "coat\nnet 1\npegs")
        self.assertEqual(text_of_world(made_world(MIXED, line_net(3), pegs=(0, 2))),
                         "coat 0 1\ncoat 0 2\ncoat 1 2 3\ncoat 2\ncoat\nnet 3\nthread 0 1\nthread 1 2\npegs 0 2")

    def test_there_and_back(self):
        seen = {}
        for world in worlds():
            text = text_of_world(world)
            read = world_of(text)
            self.assertEqual(read, world)
            self.assertEqual((read.base, read.net.near, read.table.many), (world.base, world.net.near, world.table.many))
            self.assertEqual(text_of_world(read), text)
            self.assertEqual(seen.setdefault(text, world), world)

    def test_each_row_in_each_place(self):
        rows = EXAMPLE.split("\n")
        for many in range(6):
            for chosen in itertools.permutations(rows, many):
                self.check_rows(list(chosen))
        for at in range(5):
            self.check_rows(rows[:at] + rows[at + 1:])
            for other in rows + ["coat", "pegs", "net 2", "thread 0 1", "", "net", "coat 0 1", "pegs 1"]:
                self.check_rows(rows[:at] + [other] + rows[at:])
                self.check_rows(rows[:at] + [other] + rows[at + 1:])
                self.check_rows(rows + [other])

    def check_rows(self, rows):
        """Ask for the first row that may not stand where it stands, as the document tells it."""
        after = {None: ("coat",), "coat": ("coat", "net"), "net": ("thread", "pegs"), "thread": ("thread", "pegs"), "pegs": ()}
        before, text = None, "\n".join(rows)
        rows = rows or [""]
        for at, row in enumerate(rows):
            words = row.split(" ")
            many = {"net": 1, "thread": 2}.get(words[0])
            if words[0] not in after[before] or many not in (None, len(words) - 1):
                self.refuses(BadText, at, world_of, text)
                return
            before = words[0]
        if before != "pegs":
            self.refuses(BadText, len(rows), world_of, text)
            return
        try:
            world = world_of(text)
        except (BadSize, BadTable, BadNet, Parted, BadPegs):
            return
        self.assertEqual(text_of_world(world), text)

    def test_bad_words(self):
        rows = EXAMPLE.split("\n")
        for bad in BAD_WORDS + ("1 ", " 1", "1  0", "0 x"):
            if "\n" in bad:
                continue
            for at, row in ((0, "coat " + bad), (1, "coat 0 " + bad), (2, "net " + bad), (3, "thread 0 " + bad),
                            (3, "thread " + bad + " 1"), (4, "pegs " + bad), (4, "pegs 0 " + bad)):
                self.refuses(BadText, at, world_of, "\n".join(rows[:at] + [row] + rows[at + 1:]))

    def test_bad_rows(self):
        rows = EXAMPLE.split("\n")
        for bad in ("", " ", "Coat 1", "coats 1", "coat1", "coat:1", " coat 1", "net", "net 2 2", "thread", "thread 0",
                    "thread 0 1 2", "thread 0:1", "peg 0", "Pegs 0", "pegs0", "pegs,0", "0 1", "coat 1\r", "#", "pegs 0\t",
                    "net 2 ", "thread 0  1", "coat\t1", "1"):
            for at in range(5):
                self.refuses(BadText, at, world_of, "\n".join(rows[:at] + [bad] + rows[at + 1:]))
            self.refuses(BadText, 5, world_of, "\n".join(rows + [bad]))
        self.refuses(BadText, 0, world_of, "")
        self.refuses(BadText, 0, world_of, "\n")
        self.refuses(BadText, 0, world_of, "\n" + EXAMPLE)
        self.refuses(BadText, 5, world_of, EXAMPLE + "\n")
        self.refuses(BadText, 1, world_of, EXAMPLE.replace("\n", "\n\n"))
        self.refuses(BadText, 0, world_of, EXAMPLE.replace("\n", "\r\n"))
        self.refuses(BadText, 0, world_of, EXAMPLE.replace("\n", "\r"))
        self.refuses(BadText, 4, world_of, EXAMPLE + " ")

    def test_no_pegs_row(self):
        rows = EXAMPLE.split("\n")
        for many in range(1, 5):
            self.refuses(BadText, many, world_of, "\n".join(rows[:many]))
        # A row that may not stand there is told first, whatever the numbers say.
        self.refuses(BadText, 2, world_of, "coat 9\nnet 99\ncoat")
        self.refuses(BadText, 2, world_of, "coat 9\nnet 99")

    def test_what_the_rows_say(self):
        end = "\nnet 2\nthread 0 1\npegs 0"
        self.refuses(BadSize, 9, world_of, "\n".join(["coat"] * 9) + "\nnet 0\nthread 5 5\npegs 9")
        self.refuses(BadTable, 0, world_of, "coat 2\ncoat 0" + end)
        self.refuses(BadTable, 1, world_of, "coat\ncoat 1 0" + end)
        self.refuses(BadTable, 0, world_of, "coat 0 0" + end)
        self.refuses(BadTable, 1, world_of, "coat\ncoat 0" + "\nnet 0\npegs 9")
        self.refuses(BadSize, 0, world_of, "coat\nnet 0\npegs")
        self.refuses(BadSize, 25, world_of, "coat\nnet 25\nthread 5 5\npegs 9")
        self.refuses(BadSize, 999, world_of, "coat\nnet 999\npegs")
        self.refuses(BadSize, 61, world_of, "coat\nnet 3" + "\nthread 0 1" * 61 + "\npegs 9")
        self.refuses(BadNet, 0, world_of, "coat\nnet 2\nthread 1 0\npegs 9")
        self.refuses(BadNet, 1, world_of, "coat\nnet 2\nthread 0 1\nthread 0 1\npegs 9")
        self.refuses(BadNet, 1, world_of, "coat\nnet 3\nthread 0 2\nthread 0 1\npegs")
        self.refuses(BadNet, 0, world_of, "coat\nnet 2\nthread 0 2\npegs")
        self.refuses(Parted, 1, world_of, "coat\nnet 2\npegs 9")
        self.refuses(Parted, 2, world_of, "coat\nnet 4\nthread 0 1\nthread 2 3\npegs")
        self.refuses(BadPegs, 0, world_of, "coat\nnet 1\npegs 1")
        self.refuses(BadPegs, 1, world_of, "coat\nnet 2\nthread 0 1\npegs 0 0")
        self.refuses(BadPegs, 1, world_of, "coat\nnet 2\nthread 0 1\npegs 1 0")
        self.assertEqual(world_of("coat 0\nnet 2\nthread 0 1\npegs"), made_world(all_coats(1), line_net(2)))

    def test_shapes(self):
        for net in (ring_net(5), KITE, BOW, EYE, star_net(3), grid_net(2, 2)):
            world = made_world(unlike_coats(3), net, pegs=(1, 2))
            self.assertEqual(world_of(text_of_world(world)), world)


if __name__ == "__main__":
    unittest.main()
