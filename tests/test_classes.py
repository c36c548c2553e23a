"""Classes and frozen places: [10], [11]."""

import itertools
import unittest

from betweencoats.classes import class_of
from betweencoats.errors import BadStone, TooMany
from betweencoats.frozen import frozen
from betweencoats.nets import made_net
from betweencoats.netshapes import line_net, ring_net, star_net
from betweencoats.tables import made_table
from betweencoats.tableshapes import all_coats, line_coats, unlike_coats
from betweencoats.worlds import made_world
from tests.plainly import BOW, MIXED, Case, frozen_places, shortest_runs, small_worlds, standings


class Classes(Case):

    def test_by_hand(self):
        world = made_world(unlike_coats(3), ring_net(4), pegs=(0,))
        self.assertEqual(class_of(world, (0, 1, 0, 1)), (
            (0, 1, 0, 1), (0, 1, 0, 2), (0, 1, 2, 1), (0, 2, 0, 1), (0, 2, 0, 2), (0, 2, 1, 2)))
        world = made_world(unlike_coats(3), ring_net(3))
        self.assertEqual(class_of(world=world, standing=(0, 1, 2)), ((0, 1, 2),))
        self.assertEqual(class_of(made_world(all_coats(3), line_net(1)), (2,)), ((2,),))

    def test_against_a_search(self):
        for world in small_worlds():
            left = standings(world)
            while left:
                found = tuple(sorted(shortest_runs(world, left[0])))
                for member in found:
                    self.assertEqual(class_of(world, member), found)
                left = [standing for standing in left if standing not in found]

    def test_just_4096(self):
        world = made_world(all_coats(4), star_net(7), pegs=(0,))
        everything = tuple((0,) + coats for coats in itertools.product(range(4), repeat=6))
        self.assertEqual(class_of(world, (0,) * 7), everything)
        self.assertEqual(class_of(world, (0, 3, 1, 3, 0, 2, 1)), everything)

    def test_one_more(self):
        # A tree; the standings with the coat 2 at the peg are 4097 and all come of one another.
        table = made_table(((1, 2, 3, 4), (0, 1, 2, 4), (0, 1, 2, 3, 4), (0, 2), (0, 1, 2)))
        net = made_net(7, ((0, 1), (1, 2), (2, 3), (2, 4), (3, 6), (4, 5)))
        world = made_world(table, net, pegs=(0,))
        count = sum(standing[0] == 2 for standing in standings(world))
        self.assertEqual(count, 4097)
        self.refuses(TooMany, 4096, class_of, world, (2,) * 7)

    def test_many_more(self):
        self.refuses(TooMany, 4096, class_of, made_world(all_coats(4), star_net(8), pegs=(0,)), (0,) * 8)
        self.refuses(TooMany, 4096, class_of, made_world(all_coats(8), line_net(24)), (0,) * 24)
        self.refuses(BadStone, 0, class_of, made_world(all_coats(4), star_net(8), pegs=(0,)), (4,) * 8)


class Frozen(Case):

    def test_examples(self):
        for pegs in ((), (0,)):
            world = made_world(unlike_coats(3), ring_net(6), pegs=pegs)
            self.assertEqual(frozen(world, (0, 1, 2, 0, 1, 2)), (0, 1, 2, 3, 4, 5))
        self.assertEqual(frozen(made_world(unlike_coats(3), ring_net(4), pegs=(0,)), (0, 1, 0, 1)), (0,))
        self.assertEqual(frozen(made_world(unlike_coats(3), ring_net(4)), (0, 1, 0, 1)), ())

    def test_one_place(self):
        self.assertEqual(frozen(made_world(MIXED, line_net(1)), (4,)), (0,))
        self.assertEqual(frozen(made_world(MIXED, line_net(1), pegs=(0,)), (1,)), (0,))

    def test_places_outside_do_not_keep(self):
        # Place 1 has neighbours of different coats, but 2 is not kept.
        world = made_world(unlike_coats(3), line_net(3), pegs=(0,))
        self.assertEqual(frozen(world=world, a=(0, 1, 2)), (0,))
        # With both ends pegged it is kept, and in a row of four both inner places keep one another.
        self.assertEqual(frozen(made_world(unlike_coats(3), line_net(3), pegs=(0, 2)), (0, 1, 2)), (0, 1, 2))
        self.assertEqual(frozen(made_world(unlike_coats(3), line_net(3), pegs=(0, 2)), (0, 1, 0)), (0, 2))
        ends = made_world(unlike_coats(3), line_net(4), pegs=(0, 3))
        self.assertEqual(frozen(ends, (0, 1, 2, 0)), (0, 1, 2, 3))
        self.assertEqual(frozen(ends, (0, 1, 0, 1)), (0, 3))
        self.assertEqual(frozen(ends, (0, 1, 2, 1)), (0, 3))
        # A long chain comes apart from its loose end on.
        self.assertEqual(frozen(made_world(line_coats(8), line_net(8), pegs=(0,)), tuple(range(8))), (0,))
        # Place 3 is loose; the others are kept by the ring alone.
        tail = made_world(unlike_coats(3), made_net(4, ((0, 1), (0, 2), (0, 3), (1, 2))))
        self.assertEqual(frozen(tail, (0, 1, 2, 1)), (0, 1, 2))
        self.assertEqual(frozen(made_world(unlike_coats(3), BOW), (0, 1, 2, 0, 1)), (0, 1, 2, 3, 4))

    def test_by_the_words(self):
        for world in small_worlds():
            for a in standings(world)[::3]:
                self.assertEqual(frozen(world, a), frozen_places(world, a))

    def test_what_holds(self):
        for world in small_worlds():
            if world.net.many <= 4:
                for a in standings(world)[::3]:
                    still = frozen(world, a)
                    for b in shortest_runs(world, a):
                        self.assertEqual([a[v] for v in still], [b[v] for v in still])
                        self.assertEqual(frozen(world, b), still)


if __name__ == "__main__":
    unittest.main()
