"""Pieces: [21]."""

import itertools
import unittest

from betweencoats.errors import BadCount, NoPeg
from betweencoats.nets import made_net
from betweencoats.netshapes import grid_net, line_net, ring_net, star_net
from betweencoats.pieces import piece_world, pieces
from betweencoats.rounds import rounds
from betweencoats.same import come
from betweencoats.tableshapes import all_coats, unlike_coats
from betweencoats.work import work
from betweencoats.worlds import World, made_world
from tests.plainly import BOW, EYE, KITE, Case, neighbours, small_worlds, standings

LINE = made_world(all_coats(2), line_net(5), pegs=(0, 2, 3))


def pieces_by_the_words(world):
    """The pieces, each grown from a place that is no peg by trying all threads again and again."""
    loose = [place for place in range(world.net.many) if place not in world.pegs]
    found = []
    for place in loose:
        lot, size = {place}, 0
        while size < len(lot):
            size = len(lot)
            lot |= {y for x, y in world.net.threads if x in lot and y in loose}
            lot |= {x for x, y in world.net.threads if y in lot and x in loose}
        pegs = {peg for peg in world.pegs if lot & set(neighbours(world.net, peg))}
        found.append((min(lot), tuple(sorted(lot | pegs))))
    return tuple(piece for _, piece in sorted(set(found)))


def pegged_worlds():
    """Nets with all choices of pegs."""
    for net in (line_net(5), ring_net(5), star_net(5), grid_net(3, 2), BOW, KITE, EYE, line_net(1), line_net(2)):
        for many in range(1, net.many + 1):
            for pegs in itertools.combinations(range(net.many), many):
                yield made_world(all_coats(2), net, pegs=pegs)


class Pieces(Case):

    def test_example(self):
        self.assertEqual(pieces(world=LINE), ((0, 1, 2), (3, 4)))
        one, two = piece_world(world=LINE, k=0), piece_world(LINE, 1)
        self.assertEqual(one, made_world(all_coats(2), line_net(3), pegs=(0, 2)))
        self.assertEqual(two, made_world(all_coats(2), line_net(2), pegs=(0,)))
        self.assertIsInstance(one, World)
        self.assertEqual((one.base, two.base), (0, 0))

    def test_all_places_pegs(self):
        for net in (line_net(1), line_net(4), ring_net(3)):
            world = made_world(all_coats(2), net, pegs=tuple(range(net.many)))
            self.assertEqual(pieces(world), ())
            for k in (0, 1, -1):
                self.refuses(BadCount, k, piece_world, world, k)

    def test_a_peg_in_several_pieces_and_in_none(self):
        world = made_world(all_coats(2), star_net(5), pegs=(0,))
        self.assertEqual(pieces(world), ((0, 1), (0, 2), (0, 3), (0, 4)))
        world = made_world(all_coats(2), line_net(6), pegs=(1, 2, 3))
        self.assertEqual(pieces(world), ((0, 1), (3, 4, 5)))
        world = made_world(all_coats(2), star_net(4), pegs=(0, 1, 3))
        self.assertEqual(pieces(world), ((0, 2),))

    def test_order_by_the_least_places_that_are_no_pegs(self):
        # The piece of place 1 has the pegs 3 and 4, that of place 2 the peg 0.
        net = made_net(5, ((0, 2), (0, 3), (1, 3), (1, 4)))
        world = made_world(all_coats(2), net, pegs=(0, 3, 4))
        self.assertEqual(pieces(world), ((1, 3, 4), (0, 2)))
        self.assertEqual(piece_world(world, 0), made_world(
            all_coats(2), made_net(3, ((0, 1), (0, 2))), pegs=(1, 2)))
        self.assertEqual(piece_world(world, 1), made_world(all_coats(2), line_net(2), pegs=(0,)))

    def test_threads_between_pegs_are_left_out(self):
        world = made_world(unlike_coats(3), ring_net(3), pegs=(0, 2))
        self.assertEqual(pieces(world), ((0, 1, 2),))
        self.assertEqual(piece_world(world, 0), made_world(unlike_coats(3), line_net(3), pegs=(0, 2)))
        # A closed way of unpegged places stays closed.
        world = made_world(unlike_coats(3), BOW, pegs=(2, 3))
        self.assertEqual(pieces(world), ((0, 1, 2), (2, 3, 4)))
        self.assertEqual(piece_world(world, 0), made_world(unlike_coats(3), ring_net(3), pegs=(2,)))
        self.assertEqual(piece_world(world, 1).net.threads, ((0, 2), (1, 2)))

    def test_by_the_words(self):
        for world in pegged_worlds():
            found = pieces_by_the_words(world)
            self.assertEqual(pieces(world), found)
            for k, places in enumerate(found):
                self.check_piece(world, places, piece_world(world, k))

    def check_piece(self, world, places, part):
        threads = tuple(
            (places.index(x), places.index(y)) for x, y in world.net.threads
            if {x, y} <= set(places) and not {x, y} <= set(world.pegs))
        pegs = tuple(at for at, place in enumerate(places) if place in world.pegs)
        self.assertEqual(part, made_world(world.table, made_net(len(places), threads), pegs=pegs))
        self.assertEqual(part.base, pegs[0])
        self.assertEqual(part.net.near, made_net(len(places), threads).near)

    def test_indexes(self):
        for k in (-1, 2, -2, 10 ** 20, -10 ** 20):
            self.refuses(BadCount, k, piece_world, LINE, k)
        free = made_world(all_coats(2), line_net(5))
        self.refuses(NoPeg, 0, pieces, free)
        for k in (0, -1, 1, 10 ** 20):
            self.refuses(NoPeg, 0, piece_world, free, k)

    def test_what_holds(self):
        told = set()
        for world in small_worlds(pegged_only=True):
            parts = [(places, piece_world(world, k)) for k, places in enumerate(pieces(world))]
            known = standings(world)
            for a, b in itertools.product(known[::9], known[::2]):
                if all(a[peg] == b[peg] for peg in world.pegs):
                    told.add(self.check_parts(world, parts, a, b))
        self.assertEqual(told, {False, True})

    def check_parts(self, world, parts, a, b):
        split = []
        for places, part in parts:
            split.append((places, part, tuple(a[v] for v in places), tuple(b[v] for v in places)))
        self.assertIs(come(world, a, b), all(come(part, one, two) for _, part, one, two in split))
        if come(world, a, b):
            due = work(world, a, b)
            for places, part, one, two in split:
                for place, many in zip(places, work(part, one, two)):
                    self.assertEqual(many, due[place])
            longest = max([len(rounds(part, one, two)) for _, part, one, two in split], default=0)
            self.assertEqual(len(rounds(world, a, b)), longest)
        return come(world, a, b)

    def test_large(self):
        world = made_world(unlike_coats(3), line_net(24), pegs=tuple(range(0, 24, 2)))
        self.assertEqual(len(pieces(world)), 12)
        self.assertEqual(pieces(world)[0], (0, 1, 2))
        self.assertEqual(pieces(world)[-1], (22, 23))
        world = made_world(unlike_coats(3), grid_net(6, 4), pegs=(23,))
        self.assertEqual(pieces(world), (tuple(range(24)),))
        self.assertEqual(piece_world(world, 0), world)


if __name__ == "__main__":
    unittest.main()
