"""Worlds and standings: [3]."""

import itertools
import unittest

from betweencoats.errors import BadCount, BadPegs, BadSize
from betweencoats.netshapes import line_net, ring_net, star_net
from betweencoats.standings import is_standing, standings_of
from betweencoats.tables import made_table
from betweencoats.tableshapes import all_coats, line_coats, unlike_coats
from betweencoats.worlds import made_world
from tests.plainly import MIXED, ODD_THINGS, Case, nested, small_worlds, standings


class Worlds(Case):

    def test_keeps_its_parts(self):
        table, net = unlike_coats(3), line_net(4)
        world = made_world(table, net, pegs=(1, 3))
        self.assertIs(world.table, table)
        self.assertIs(world.net, net)
        self.assertEqual(world.pegs, (1, 3))
        self.assertEqual(world.base, 1)
        self.assertRaises(TypeError, made_world, table, net, (1, 3))

    def test_base(self):
        table, net = unlike_coats(3), line_net(4)
        self.assertEqual(made_world(table=table, net=net).pegs, ())
        self.assertEqual(made_world(table, net).base, 0)
        self.assertEqual(made_world(table, net, pegs=()).base, 0)
        self.assertEqual(made_world(table, net, pegs=(0,)).base, 0)
        self.assertEqual(made_world(table, net, pegs=(3,)).base, 3)
        self.assertEqual(made_world(table, net, pegs=(2, 3)).base, 2)
        self.assertEqual(made_world(table, net, pegs=(0, 1, 2, 3)).pegs, (0, 1, 2, 3))

    def test_bad_pegs(self):
        table, net = unlike_coats(3), line_net(4)
        self.refuses(BadPegs, 0, made_world, table, net, pegs=(4,))
        self.refuses(BadPegs, 0, made_world, table, net, pegs=(-1,))
        self.refuses(BadPegs, 1, made_world, table, net, pegs=(0, 4))
        self.refuses(BadPegs, 1, made_world, table, net, pegs=(2, 1))
        self.refuses(BadPegs, 1, made_world, table, net, pegs=(2, 2))
        self.refuses(BadPegs, 2, made_world, table, net, pegs=(0, 2, 1))
        self.refuses(BadPegs, 1, made_world, table, net, pegs=(3, 0, 9))
        self.refuses(BadPegs, 1, made_world, table, line_net(1), pegs=(0, 0))
        self.refuses(BadPegs, 0, made_world, table, line_net(1), pegs=(1,))

    def test_all_small_pegs(self):
        net = line_net(3)
        for size in range(4):
            for pegs in itertools.product(range(-1, 4), repeat=size):
                bad = [i for i in range(size) if not 0 <= pegs[i] < 3 or i > 0 and pegs[i - 1] >= pegs[i]]
                if bad:
                    self.refuses(BadPegs, bad[0], made_world, MIXED, net, pegs=pegs)
                else:
                    self.assertEqual(made_world(MIXED, net, pegs=pegs).pegs, pegs)

    def test_equal(self):
        world = made_world(unlike_coats(3), line_net(3), pegs=(1,))
        self.assertTrue(world == made_world(unlike_coats(3), line_net(3), pegs=(1,)))
        self.assertFalse(world != made_world(unlike_coats(3), line_net(3), pegs=(1,)))
        others = (
            made_world(all_coats(3), line_net(3), pegs=(1,)),
            made_world(unlike_coats(3), ring_net(3), pegs=(1,)),
            made_world(unlike_coats(3), line_net(3), pegs=(0,)),
            made_world(unlike_coats(3), line_net(3), pegs=(1, 2)),
            made_world(unlike_coats(3), line_net(3)),
        )
        for other in others:
            self.assertFalse(world == other)
            self.assertTrue(world != other)
        for other in (None, 1, "world", (), unlike_coats(3), line_net(3), (unlike_coats(3), line_net(3), (1,))):
            self.assertIs(world == other, False)
            self.assertIs(other == world, False)
            self.assertIs(world != other, True)


class Standings(Case):

    def test_is_standing(self):
        world = made_world(unlike_coats(3), ring_net(4), pegs=(0,))
        self.assertIs(is_standing(world, (0, 1, 0, 1)), True)
        self.assertIs(is_standing(world=world, thing=(2, 1, 0, 1)), True)
        for near in ((0, 1, 0, 0), (0, 0, 1, 2), (0, 1, 1, 2), (0, 1, 2, 0), (0, 1, 0), (0, 1, 0, 1, 0), (0, 1, 0, 3),
                     (3, 1, 0, 1), (0, 1, 0, -1), (-1, 1, 0, 1), (0, 1, 0, -2), (0, 10 ** 20, 0, 1)):
            self.assertIs(is_standing(world, near), False)

    def test_is_standing_of_odd_things(self):
        things = ODD_THINGS + (nested(100), (nested(99), 1, 0, 1), (0,) * 10 ** 5, ("0",) * 4, (None,) * 4, ((0,),) * 4)
        for world in (made_world(unlike_coats(3), ring_net(4)), made_world(all_coats(2), line_net(2), pegs=(0, 1))):
            for thing in things:
                self.assertIs(is_standing(world, thing), False)

    def test_one_place(self):
        world = made_world(MIXED, line_net(1))
        self.assertTrue(is_standing(world, (4,)))
        self.assertFalse(is_standing(world, (5,)))
        self.refuses(BadCount, 5, standings_of, world)

    def test_judge_agrees_with_the_words(self):
        for world in small_worlds():
            if world.net.many <= 4:
                known = set(standings(world))
                for coats in itertools.product(range(-1, world.table.many + 1), repeat=world.net.many):
                    self.assertIs(is_standing(world, coats), coats in known)

    def test_standings_of(self):
        world = made_world(line_coats(3), line_net(3))
        self.assertEqual(standings_of(world), ((0, 1, 0), (0, 1, 2), (1, 0, 1), (1, 2, 1), (2, 1, 0), (2, 1, 2)))
        self.assertEqual(standings_of(world=made_world(line_coats(3), ring_net(3))), ())
        self.assertEqual(standings_of(made_world(made_table(((), ())), line_net(1), pegs=(0,))), ((0,), (1,)))
        self.assertEqual(standings_of(made_world(made_table(((0,), ())), line_net(2))), ((0, 0),))

    def test_standings_by_their_words(self):
        for world in small_worlds():
            if world.table.many <= 4:
                self.assertEqual(standings_of(world), tuple(standings(world)))

    def test_largest(self):
        self.assertEqual(
            standings_of(made_world(all_coats(4), star_net(6), pegs=(2,))),
            tuple(itertools.product(range(4), repeat=6)))

    def test_too_large(self):
        self.refuses(BadSize, 7, standings_of, made_world(all_coats(1), line_net(7)))
        self.refuses(BadSize, 24, standings_of, made_world(all_coats(8), line_net(24), pegs=(0,)))
        self.refuses(BadCount, 5, standings_of, made_world(all_coats(5), line_net(6)))
        self.refuses(BadCount, 8, standings_of, made_world(unlike_coats(8), line_net(1)))


if __name__ == "__main__":
    unittest.main()
