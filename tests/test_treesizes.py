"""How many standings come of one: [30]."""

import itertools
import time
import unittest

from betweencoats.classes import class_of
from betweencoats.errors import BadNet, BadSize, BadStone, NoPeg, TooMany
from betweencoats.nets import made_net
from betweencoats.netshapes import grid_net, line_net, ring_net, star_net
from betweencoats.pieces import pieces
from betweencoats.rowcounts import row_count
from betweencoats.tableshapes import all_coats, line_coats, ring_coats, unlike_coats
from betweencoats.treesizes import tree_size
from betweencoats.worlds import made_world
from tests.plainly import BOW, EYE, KITE, MIXED, Case, classes

# A tree with branches in branches.
BUSH = made_net(7, ((0, 1), (0, 2), (1, 3), (1, 4), (3, 6), (4, 5)))
NETS = (
    line_net(1), line_net(2), line_net(4), line_net(5), star_net(4), star_net(5), ring_net(3), ring_net(4), ring_net(5),
    KITE, BOW, EYE, grid_net(3, 2), BUSH)


def told_by_the_words(world):
    """What is refused of a world, ("net",) or ("many", t), or None."""
    found = None
    for piece in pieces(world):
        lot = [place for place in piece if place not in world.pegs]
        inner = [(x, y) for x, y in world.net.threads if x in lot and y in lot]
        # Leaves are plucked; what is left has a closed way.
        loose = set(lot)
        while any(sum(v in pair for pair in inner if set(pair) <= loose) < 2 for v in loose):
            loose = {v for v in loose if sum(v in pair for pair in inner if set(pair) <= loose) > 1}
        if loose:
            return ("net",)
        threads = sum((x in lot) + (y in lot) == 1 for x, y in world.net.threads)
        if threads > 2 and found is None:
            found = ("many", threads)
    return found


def worlds():
    """Nets with all choices of pegs."""
    for net in NETS:
        tables = (unlike_coats(3), all_coats(2), line_coats(3)) if net.many > 4 else (unlike_coats(3), MIXED)
        for table in tables:
            for many in range(1, net.many + 1):
                for pegs in itertools.combinations(range(net.many), many):
                    yield made_world(table, net, pegs=pegs)


class TreeSizes(Case):

    def test_examples(self):
        world = made_world(unlike_coats(3), star_net(4), pegs=(1, 2))
        self.assertEqual(tree_size(world, (0, 1, 1, 2)), 4)
        self.assertEqual(tree_size(world=world, a=(0, 1, 1, 2)), 4)
        self.refuses(TooMany, 3, tree_size, made_world(unlike_coats(3), star_net(4), pegs=(1, 2, 3)), (0, 1, 1, 2))
        world = made_world(line_coats(4), line_net(3), pegs=(0, 2))
        self.assertEqual(tree_size(world, (0, 1, 2)), 1)
        self.assertEqual(tree_size(world, (1, 0, 1)), 2)

    def test_against_classes(self):
        told = {}
        for world in worlds():
            wanted = told_by_the_words(world)
            kind = wanted and wanted[0]
            told[kind] = told.get(kind, 0) + 1
            if wanted is None:
                for members in classes(world):
                    for a in members[::7]:
                        self.assertEqual(tree_size(world, a), len(members))
            else:
                self.check_refused(world, wanted)
        self.assertGreater(min(told.values()), 40)
        self.assertEqual(set(told), {None, "net", "many"})

    def check_refused(self, world, wanted):
        for members in classes(world)[:3]:
            if wanted[0] == "net":
                self.refuses(BadNet, 0, tree_size, world, members[0])
            else:
                self.refuses(TooMany, wanted[1], tree_size, world, members[0])

    def test_one_thread(self):
        # The peg is a leaf, and everything else stands as it likes.
        world = made_world(unlike_coats(3), line_net(24), pegs=(0,))
        self.assertEqual(tree_size(world, (0, 1) * 12), 2 ** 23)
        world = made_world(all_coats(8), line_net(24), pegs=(23,))
        self.assertEqual(tree_size(world, (0,) * 24), 8 ** 23)
        world = made_world(ring_coats(5), star_net(24), pegs=(7,))
        self.assertEqual(tree_size(world, (0,) + (1,) * 23), 2 * 2 ** 22)

    def test_two_threads(self):
        begun = time.perf_counter()
        world = made_world(unlike_coats(3), line_net(24), pegs=(0, 23))
        row = (0, 1) * 11 + (2, 0)
        self.assertEqual(tree_size(world, row), row_count(world.table, (0, 1, 2, 0), 23))
        # From the same peg, round a ring of 24 places: the way has 24 steps.
        for table in (unlike_coats(3), all_coats(8), unlike_coats(8)):
            world = made_world(table, ring_net(24), pegs=(5,))
            self.assertEqual(tree_size(world, (0, 1) * 12), row_count(table, (1,), 24))
        world = made_world(unlike_coats(3), ring_net(24), pegs=(5,))
        self.assertEqual(tree_size(world, (0, 1, 2) * 8), 1)
        self.assertLess(time.perf_counter() - begun, 5)

    def test_two_threads_to_one_place(self):
        # A way of two steps, and much that hangs in the midst of it.
        world = made_world(unlike_coats(3), star_net(24), pegs=(3, 9))
        a = (0,) + (1,) * 23
        self.assertEqual(tree_size(world, a), 2 * 2 ** 21)
        a = (0,) + (1,) * 8 + (2,) + (1,) * 14
        self.assertEqual(tree_size(world, a), 2 ** 21)

    def test_threads_from_one_peg_to_two_places(self):
        # A ring of four with a peg on it, and tails at the place of the peg and across from it.
        net = made_net(6, ((0, 1), (0, 3), (0, 4), (1, 2), (2, 3), (2, 5)))
        world = made_world(unlike_coats(3), net, pegs=(0,))
        for members in classes(world):
            self.assertEqual(tree_size(world, members[0]), len(members))

    def test_pieces_are_multiplied(self):
        world = made_world(unlike_coats(3), line_net(9), pegs=(2, 4, 5))
        a = (0, 1, 0, 1, 0, 1, 0, 1, 0)
        self.assertEqual(tree_size(world, a), 4 * 2 * 8)
        self.assertEqual(tree_size(world, a), len(class_of(world, a)))

    def test_all_places_pegs(self):
        for net in (line_net(1), ring_net(5), grid_net(6, 4), star_net(24)):
            world = made_world(all_coats(2), net, pegs=tuple(range(net.many)))
            self.assertEqual(tree_size(world, (0,) * net.many), 1)


class Errors(Case):

    def test_standings(self):
        world = made_world(unlike_coats(3), star_net(4), pegs=(1, 2, 3))
        self.refuses(BadSize, 0, tree_size, world, ())
        self.refuses(BadSize, 5, tree_size, world, (9,) * 5)
        self.refuses(BadStone, 2, tree_size, world, (0, 1, 0, 0))
        world = made_world(unlike_coats(3), ring_net(5), pegs=())
        self.refuses(NoPeg, 0, tree_size, world, ())
        self.refuses(NoPeg, 0, tree_size, world, (0, 1, 0, 1, 2))

    def test_a_closed_way_anywhere_comes_first(self):
        # Three threads to pegs at place 0, and a ring of three behind the peg 4.
        tail = ((0, 1), (0, 2), (0, 3), (3, 4), (4, 5), (5, 6), (5, 7), (6, 7))
        world = made_world(all_coats(2), made_net(8, tail), pegs=(1, 2, 3, 4))
        self.refuses(BadNet, 0, tree_size, world, (0,) * 8)
        self.refuses(BadStone, 7, tree_size, world, (0,) * 7 + (2,))
        # The same, the other way about.
        head = ((0, 1), (0, 2), (1, 2), (2, 3), (3, 4), (4, 5), (4, 6), (4, 7))
        world = made_world(all_coats(2), made_net(8, head), pegs=(3, 5, 6, 7))
        self.refuses(BadNet, 0, tree_size, world, (0,) * 8)
        world = made_world(all_coats(2), made_net(8, head), pegs=(2, 3, 5, 6, 7))
        self.refuses(TooMany, 4, tree_size, world, (0,) * 8)

    def test_the_first_piece_with_many_threads(self):
        threads = ((0, 2), (0, 3), (0, 4), (1, 2), (1, 3), (1, 4), (1, 5), (5, 6))
        world = made_world(all_coats(2), made_net(7, threads), pegs=(2, 3, 4, 5))
        self.refuses(TooMany, 3, tree_size, world, (0,) * 7)
        threads = ((0, 2), (0, 3), (0, 4), (0, 5), (1, 2), (1, 3), (1, 4), (5, 6))
        world = made_world(all_coats(2), made_net(7, threads), pegs=(2, 3, 4, 5))
        self.refuses(TooMany, 4, tree_size, world, (0,) * 7)
        # The first piece is simple.
        threads = ((0, 2), (0, 3), (1, 2), (1, 3), (1, 4), (1, 5), (5, 6))
        world = made_world(all_coats(2), made_net(7, threads), pegs=(2, 3, 4, 5))
        self.refuses(TooMany, 4, tree_size, world, (0,) * 7)


if __name__ == "__main__":
    unittest.main()
