"""Glued worlds, maps of nets, and standings read along them: [22]."""

import itertools
import unittest

from betweencoats.errors import BadPlace, BadSize, BadTable, NotPegged
from betweencoats.glued import glued
from betweencoats.netmaps import is_net_map, pulled
from betweencoats.nets import made_net
from betweencoats.netshapes import grid_net, line_net, ring_net, star_net
from betweencoats.rounds import rounds
from betweencoats.same import come
from betweencoats.tables import made_table
from betweencoats.tableshapes import all_coats, unlike_coats
from betweencoats.work import work
from betweencoats.worlds import World, made_world
from tests.plainly import BOW, EYE, KITE, ODD_THINGS, Case, nested, standings

TABLE = unlike_coats(3)
RING = made_world(TABLE, ring_net(4), pegs=(0, 2))
TAIL = made_world(TABLE, line_net(3), pegs=(1, 2))
FREE = made_world(TABLE, line_net(3))


def crowd(many):
    """A net of 13 places with many threads."""
    return made_net(13, tuple(itertools.combinations(range(13), 2))[:many])


class Glued(Case):

    def test_by_hand(self):
        # The places of TAIL become 4, 2, 5: its peg 1 becomes the peg 2.
        found = glued(one=RING, two=TAIL, x=2, y=1)
        threads = ((0, 1), (0, 3), (1, 2), (2, 3), (2, 4), (2, 5))
        self.assertIsInstance(found, World)
        self.assertEqual(found, made_world(TABLE, made_net(6, threads), pegs=(0, 2, 5)))
        self.assertEqual(found.base, 0)
        self.assertEqual(found.net.near, made_net(6, threads).near)
        # The places of TAIL become 4, 5, 0.
        found = glued(RING, TAIL, 0, 2)
        threads = ((0, 1), (0, 3), (0, 5), (1, 2), (2, 3), (4, 5))
        self.assertEqual(found, made_world(TABLE, made_net(6, threads), pegs=(0, 2, 5)))
        # The places of RING become 1, 3, 4, 5 and 2, 3, 4, 5.
        found = glued(TAIL, RING, 1, 0)
        threads = ((0, 1), (1, 2), (1, 3), (1, 5), (3, 4), (4, 5))
        self.assertEqual(found, made_world(TABLE, made_net(6, threads), pegs=(1, 2, 4)))
        found = glued(TAIL, RING, 2, 2)
        threads = ((0, 1), (1, 2), (2, 4), (2, 5), (3, 4), (3, 5))
        self.assertEqual(found, made_world(TABLE, made_net(6, threads), pegs=(1, 2, 3)))
        self.assertEqual((found.base, RING.pegs, TAIL.pegs), (1, (0, 2), (1, 2)))

    def test_one_place(self):
        dot = made_world(TABLE, line_net(1), pegs=(0,))
        self.assertEqual(glued(dot, dot, 0, 0), dot)
        self.assertEqual(glued(RING, dot, 2, 0), RING)
        self.assertEqual(glued(dot, TAIL, 0, 1), made_world(TABLE, made_net(3, ((0, 1), (0, 2))), pegs=(0, 2)))

    def test_by_the_words(self):
        worlds = [made_world(TABLE, net, pegs=pegs)
                  for net in (BOW, KITE, EYE, star_net(4)) for pegs in ((0, 3), (1, 2))]
        for one, two in itertools.product(worlds, worlds):
            for x, y in itertools.product(one.pegs, two.pegs):
                self.check_glued(one, two, x, y, glued(one, two, x, y))

    def check_glued(self, one, two, x, y, found):
        names = [("one", place) for place in range(one.net.many)]
        names += [("two", place) for place in range(two.net.many) if place != y]
        number = {name: at for at, name in enumerate(names)}
        number["two", y] = x
        threads = {(number["one", u], number["one", v]) for u, v in one.net.threads}
        threads |= {tuple(sorted((number["two", u], number["two", v]))) for u, v in two.net.threads}
        pegs = {number["one", peg] for peg in one.pegs} | {number["two", peg] for peg in two.pegs}
        self.assertEqual(found.net, made_net(len(names), tuple(sorted(threads))))
        self.assertEqual(found.pegs, tuple(sorted(pegs)))
        self.assertEqual(found.table, TABLE)

    def test_who_comes(self):
        world = glued(RING, TAIL, 2, 1)
        told = []
        known = standings(world)
        for a, b in itertools.product(known[::5], known):
            first = come(RING, a[:4], b[:4])
            second = come(TAIL, (a[4], a[2], a[5]), (b[4], b[2], b[5]))
            self.assertIs(come(world, a, b), first and second)
            told.append(first and second)
        self.assertGreater(told.count(True), 20)

    def test_errors(self):
        for x in (4, -1, 10 ** 20):
            self.refuses(BadPlace, x, glued, RING, TAIL, x, 2)
            self.refuses(BadPlace, x, glued, TAIL, RING, 2, x)
        self.refuses(BadPlace, 3, glued, RING, TAIL, 0, 3)
        self.refuses(NotPegged, 1, glued, RING, TAIL, 1, 2)
        self.refuses(NotPegged, 0, glued, RING, TAIL, 0, 0)
        self.refuses(NotPegged, 0, glued, FREE, TAIL, 0, 1)
        self.refuses(NotPegged, 2, glued, RING, FREE, 0, 2)
        other = made_world(all_coats(3), line_net(3), pegs=(1,))
        self.refuses(BadTable, 0, glued, RING, other, 0, 1)
        self.refuses(BadTable, 0, glued, other, RING, 1, 0)

    def test_equal_tables_of_other_making(self):
        twin = made_world(made_table(((1, 2), (0, 2), (0, 1))), line_net(3), pegs=(1, 2))
        self.assertEqual(glued(RING, twin, 2, 1), glued(RING, TAIL, 2, 1))

    def test_two_faults_at_once(self):
        big = made_world(all_coats(2), star_net(24), pegs=(0, 5))
        self.refuses(BadPlace, 9, glued, RING, TAIL, 9, 9)
        self.refuses(BadPlace, 9, glued, RING, TAIL, 9, 0)
        self.refuses(NotPegged, 3, glued, RING, TAIL, 3, -5)
        self.refuses(NotPegged, 3, glued, RING, TAIL, 3, 0)
        self.refuses(BadPlace, -5, glued, RING, big, 0, -5)
        self.refuses(NotPegged, 7, glued, RING, big, 0, 7)
        self.refuses(BadTable, 0, glued, RING, big, 0, 5)
        wide = made_world(TABLE, crowd(50), pegs=(0,))
        long = made_world(TABLE, line_net(24), pegs=(23,))
        self.refuses(BadSize, 36, glued, wide, long, 0, 23)
        self.refuses(BadTable, 0, glued, made_world(all_coats(2), crowd(50), pegs=(0,)), wide, 0, 0)

    def test_24_and_25_places(self):
        for one, two in ((12, 13), (1, 24), (24, 1), (23, 2)):
            first = made_world(TABLE, line_net(one), pegs=(one - 1,))
            second = made_world(TABLE, star_net(two), pegs=(0,))
            found = glued(first, second, one - 1, 0)
            self.assertEqual((found.net.many, len(found.net.threads)), (24, 23))
            self.assertEqual(found, made_world(TABLE, made_net(24, found.net.threads), pegs=(one - 1,)))
        for one, two in ((13, 13), (2, 24), (24, 2), (1, 24)):
            first = made_world(TABLE, line_net(one), pegs=(0,))
            second = made_world(TABLE, star_net(two), pegs=(0,))
            if one + two == 25:
                self.assertEqual(glued(first, second, 0, 0).net.many, 24)
            else:
                self.refuses(BadSize, 25, glued, first, second, 0, 0)
        big = made_world(TABLE, star_net(24), pegs=(0,))
        self.refuses(BadSize, 47, glued, big, big, 0, 0)

    def test_60_and_61_threads(self):
        for many in (12, 30, 29):
            ring = made_world(TABLE, made_net(12, tuple(itertools.combinations(range(12), 2))[:60 - many]), pegs=(0,))
            found = glued(made_world(TABLE, crowd(many), pegs=(0,)), ring, 0, 0)
            self.assertEqual((found.net.many, len(found.net.threads)), (24, 60))
            self.assertEqual(found.net, made_net(24, found.net.threads))
            more = made_world(TABLE, crowd(many + 1), pegs=(0,))
            self.refuses(BadSize, 61, glued, more, ring, 0, 0)
            self.refuses(BadSize, 61, glued, ring, more, 0, 0)


class Maps(Case):

    def test_example(self):
        self.assertIs(is_net_map(net=line_net(4), other=ring_net(3), places=(0, 1, 2, 0)), True)
        self.assertEqual(pulled(standing=(0, 1, 2), places=(0, 1, 2, 0)), (0, 1, 2, 0))

    def test_by_hand(self):
        self.assertIs(is_net_map(line_net(4), ring_net(3), (0, 1, 2, 2)), False)
        self.assertIs(is_net_map(line_net(4), ring_net(3), (0, 1, 2)), False)
        self.assertIs(is_net_map(line_net(4), ring_net(3), (0, 1, 2, 0, 1)), False)
        self.assertIs(is_net_map(line_net(4), ring_net(3), (0, 1, 2, 3)), False)
        self.assertIs(is_net_map(line_net(4), ring_net(3), (0, 1, 2, -3)), False)
        self.assertIs(is_net_map(line_net(4), ring_net(3), (0, -2, 2, 0)), False)
        # A number below 0 is no place, though Python would read it from the end.
        self.assertIs(is_net_map(line_net(4), ring_net(3), (-1, 0, 1, 2)), False)
        self.assertIs(is_net_map(line_net(4), ring_net(3), (3, 0, 1, 2)), False)
        self.assertIs(is_net_map(line_net(4), ring_net(3), (10 ** 40, 0, 1, 2)), False)
        self.assertIs(is_net_map(line_net(4), line_net(4), (3, 2, 3, 2)), True)
        self.assertIs(is_net_map(line_net(4), line_net(4), (0, 2, 1, 3)), False)
        self.assertIs(is_net_map(line_net(1), line_net(1), (0,)), True)
        self.assertIs(is_net_map(line_net(1), line_net(1), (1,)), False)
        self.assertIs(is_net_map(line_net(2), line_net(1), (0, 0)), False)
        self.assertIs(is_net_map(line_net(1), ring_net(5), (4,)), True)

    def test_by_the_words(self):
        nets = (line_net(2), line_net(4), ring_net(3), ring_net(4), star_net(4), KITE, BOW)
        for net, other in itertools.product(nets, nets):
            both = set(other.threads) | {(y, x) for x, y in other.threads}
            for places in itertools.product(range(other.many), repeat=net.many):
                if sum(places) % 3 == 0:
                    wanted = all((places[x], places[y]) in both for x, y in net.threads)
                    self.assertIs(is_net_map(net, other, places), wanted)

    def test_odd_things(self):
        deep = (nested(100), (nested(99),) * 4, (0,) * 10 ** 5, (0, 1, 2, 10 ** 40), (-1, -2, -3, -1))
        for thing in ODD_THINGS + deep:
            self.assertIs(is_net_map(line_net(4), ring_net(3), thing), False)
        for part in (None, "1", (), (1,), "", nested(99)):
            for at in range(4):
                places = (0, 1, 2, 0)
                self.assertIs(is_net_map(line_net(4), ring_net(3), places[:at] + (part,) + places[at + 1:]), False)
        self.assertIs(is_net_map(line_net(1), ring_net(3), ()), False)

    def test_pulled(self):
        self.assertEqual(pulled((5, 6, 7), (2, 2, 0)), (7, 7, 5))
        self.assertEqual(pulled((5, 6, 7), ()), ())
        self.assertEqual(pulled((), ()), ())
        self.assertEqual(pulled((-3, 10 ** 20), (1, 0)), (10 ** 20, -3))
        self.refuses(BadPlace, 3, pulled, (5, 6, 7), (3,))
        self.refuses(BadPlace, -1, pulled, (5, 6, 7), (0, 1, -1, 9))
        self.refuses(BadPlace, 9, pulled, (5, 6, 7), (0, 9, -1, 9))
        self.refuses(BadPlace, -10 ** 20, pulled, (5, 6, 7), (0, -10 ** 20))
        self.refuses(BadPlace, 0, pulled, (), (0,))

    def test_what_holds(self):
        cases = (
            (line_net(4), ring_net(4), (0, 1, 2, 3)), (line_net(5), star_net(4), (1, 0, 2, 0, 3)),
            (ring_net(6), ring_net(3), (0, 1, 2, 0, 1, 2)), (KITE, line_net(4), (1, 3, 3, 2, 2)),
            (ring_net(4), line_net(3), (0, 1, 2, 1)), (line_net(4), BOW, (0, 2, 3, 4)))
        some = 0
        for net, other, places in cases:
            self.assertIs(is_net_map(net, other, places), True)
            for table in (unlike_coats(3), all_coats(2)):
                small = made_world(table, net, pegs=(0,))
                some += self.check_pulled(small, made_world(table, other, pegs=(places[0],)), places)
        self.assertGreater(some, 200)

    def check_pulled(self, small, large, places):
        some = 0
        for a, b in itertools.product(standings(large)[::2], standings(large)):
            if come(large, a, b):
                one, two = pulled(a, places), pulled(b, places)
                self.assertIs(come(small, one, two), True)
                self.assertEqual(work(small, one, two), pulled(work(large, a, b), places))
                self.assertLessEqual(len(rounds(small, one, two)), len(rounds(large, a, b)))
                some += a != b
        return some

    def test_large(self):
        net, other = grid_net(6, 4), line_net(2)
        places = tuple((place // 6 + place % 6) % 2 for place in range(24))
        self.assertIs(is_net_map(net, other, places), True)
        self.assertEqual(pulled((0, 1), places), places)


if __name__ == "__main__":
    unittest.main()
