"""Worlds without pegs: [36] and [37]."""

import random
import time
import unittest

from betweencoats.errors import BadNet, BadSize, BadStone, Null, Pegged
from betweencoats.evenlots import even_lots
from betweencoats.freeleast import free_least
from betweencoats.freelinks import free_come, free_link
from betweencoats.freetrees import tree_come
from betweencoats.lifts import closing_rows
from betweencoats.linkjudge import link_right
from betweencoats.nets import made_net
from betweencoats.netshapes import grid_net, line_net, ring_net, star_net
from betweencoats.ringkeys import ring_key
from betweencoats.ringleast import ring_least
from betweencoats.tables import made_table
from betweencoats.tableshapes import all_coats, line_coats, ring_coats, unlike_coats
from betweencoats.worlds import made_world
from tests.plainly import (
    BOW, EYE, KITE, MIXED, Case, after, classes, deeds, fewest, frozen_places, rested, ring_cases, standings)
from tests.test_bestlinks import even_straight_rows
from tests.test_links import followed
from tests.test_ringkeys import core_by_the_words

ALL_FREE = (free_come, free_link, free_least)


def net_of(*rounds, threads=()):
    """The net of some rings of places, and of some more threads."""
    pairs = {tuple(sorted((ring[at - 1], ring[at]))) for ring in rounds for at in range(len(ring))} | set(threads)
    return made_net(1 + max(max(pair) for pair in pairs), tuple(sorted(pairs)))


FULL = net_of((0, 1, 2), threads=((0, 3), (1, 3), (2, 3)))
THETA = net_of((0, 1, 4, 2), threads=((0, 3), (3, 4)))
DIAMOND = net_of((0, 1, 2), threads=((1, 3), (2, 3)))
SMALL_NETS = (
    line_net(1), line_net(2), line_net(4), star_net(4), ring_net(3), ring_net(4), ring_net(5), KITE, BOW, EYE, FULL, THETA,
    DIAMOND, grid_net(3, 2), net_of((2, 3, 4), threads=((0, 1), (1, 2))))
# Two rings, and three, that share a place or a thread or are tied by one.
ROUND_NETS = (
    net_of((0, 1, 2, 3, 4), (0, 5, 6, 7, 8)), net_of((0, 1, 2, 3, 4), (2, 5, 6)), net_of((0, 1, 2, 3, 4), (0, 1, 5, 6, 7)),
    net_of((0, 1, 2, 3, 4), (5, 6, 7, 8, 9), threads=((2, 5),)), net_of((0, 1, 2), (3, 4, 5, 6, 7), threads=((1, 3),)),
    net_of((0, 1, 2), (0, 3, 4), (0, 5, 6, 7, 8)))
# Two triangles of coats that share a coat, and two that share a road; then coats with loops.
BOW_TABLE = made_table(((1, 2, 3, 4), (0, 2), (0, 1), (0, 4), (0, 3)))
DIAMOND_TABLE = made_table(((1, 2), (0, 2, 3), (0, 1, 3), (1, 2)))
LOOP_TABLE = made_table(((0, 1, 2), (0, 2), (0, 1)))
LOOPS_TABLE = made_table(((0, 1), (0, 1, 2), (1,)))
ROUND_TABLES = (unlike_coats(3), BOW_TABLE, DIAMOND_TABLE, LOOP_TABLE, LOOPS_TABLE, all_coats(2))


def small_worlds():
    for net in SMALL_NETS:
        for table in (unlike_coats(3), all_coats(2), MIXED, line_coats(3), LOOP_TABLE, BOW_TABLE):
            if table.many ** net.many < 4000:
                yield made_world(table, net)


def kind_of(world, a):
    """How a is held: ("frozen",), ("null",), or (m is 1, whether all closing rows commute with the first one)."""
    if frozen_places(world, a):
        return ("frozen",)
    rows = [row for row in closing_rows(world, a) if len(row) > 1]
    if not rows:
        return ("null",)
    commute = all(rested(rows[0] + row[1:]) == rested(row + rows[0][1:]) for row in rows)
    return len(core_by_the_words(rows[0])[1]) == 2, len(rows) > 1, commute


class TreeCome(Case):

    def test_against_searches(self):
        told = set()
        for net in (line_net(1), line_net(2), line_net(5), star_net(4), net_of(threads=((0, 2), (1, 2), (1, 3)))):
            for table in (unlike_coats(3), MIXED, line_coats(4), all_coats(2), unlike_coats(2), made_table(((), ()))):
                world = made_world(table, net)
                known = standings(world)
                for a in known[::7]:
                    found = fewest(world, a)
                    for b in known:
                        self.assertIs(tree_come(world, a, b), b in found)
                        self.assertIs(free_come(world, a, b), b in found)
                        told.add(b in found)
        self.assertEqual(told, {False, True})

    def test_by_name(self):
        world = made_world(unlike_coats(3), line_net(2))
        self.assertIs(tree_come(world=world, a=(0, 1), b=(1, 0)), True)

    def test_one_place(self):
        world = made_world(all_coats(2), line_net(1))
        self.assertIs(tree_come(world, (0,), (0,)), True)
        self.assertIs(tree_come(world, (0,), (1,)), False)

    def test_large(self):
        world = made_world(line_coats(8), line_net(24))
        a, b = (0, 1) * 12, (0, 1, 2, 3, 4, 5, 6, 7, 6, 5, 4, 3, 2, 1, 2, 3, 4, 5, 6, 7, 6, 5, 4, 3)
        self.assertIs(tree_come(world, a, b), True)
        self.assertIs(tree_come(world, a, b[1:] + (2,)), False)

    def test_errors(self):
        ring = ring_net(3)
        for pegs in ((0,), (1, 2), (2,)):
            self.refuses(Pegged, pegs[0], tree_come, made_world(unlike_coats(3), ring, pegs=pegs), (), ())
            self.refuses(Pegged, pegs[0], tree_come, made_world(unlike_coats(3), line_net(3), pegs=pegs), (0, 1, 0), ())
        for net in (ring, grid_net(2, 2), KITE, BOW):
            self.refuses(BadNet, 0, tree_come, made_world(unlike_coats(3), net), (), (9,))
            self.refuses(BadNet, 0, tree_come, made_world(all_coats(3), net), (0,) * net.many, (0,) * net.many)
        world = made_world(unlike_coats(3), line_net(3))
        self.refuses(BadSize, 0, tree_come, world, (), ())
        self.refuses(BadStone, 2, tree_come, world, (0, 1, 1), ())
        self.refuses(BadSize, 4, tree_come, world, (0, 1, 0), (9,) * 4)
        self.refuses(BadStone, 0, tree_come, world, (0, 1, 0), (3, 3, 3))


class FreeWorlds(Case):

    def test_against_searches(self):
        told = {}
        for world in small_worlds():
            found = classes(world)
            for at, members in enumerate(found):
                for a in members[::max(5, len(members) // 2)]:
                    kind = kind_of(world, a)
                    told[kind] = told.get(kind, 0) + 1
                    self.check_class(world, a, fewest(world, a), kind)
                for others in found[max(0, at - 3):at]:
                    self.check_none(world, members[0], others[-1])
                    self.check_none(world, others[0], members[-1])
        self.assertLessEqual({("frozen",), ("null",), (True, False, True), (False, False, True)}, set(told))

    def check_class(self, world, a, known, kind):
        for b, many in list(known.items())[::3]:
            self.assertIs(free_come(world, a, b), True)
            if a == b:
                self.assertEqual(free_link(world, a, b), tuple((coat,) for coat in a))
                self.assertEqual(free_least(world, a, b), 0)
            elif kind == ("null",):
                self.refuses(Null, 0, free_link, world, a, b)
                self.refuses(Null, 0, free_least, world, a, b)
            else:
                self.check_link(world, a, b, many)

    def check_link(self, world, a, b, many):
        rows = free_link(world, a, b)
        self.assertTrue(link_right(world, a, b, rows))
        self.assertEqual(sum(len(row) - 1 for row in rows), 2 * many)
        self.assertEqual(free_least(world, a, b), many)

    def check_none(self, world, a, b):
        self.assertIs(free_come(world, a, b), False)
        self.assertIsNone(free_link(world, a, b))
        self.assertIsNone(free_least(world, a, b))

    def test_several_rounds(self):
        some = random.Random(8)
        told = {}
        for net in ROUND_NETS:
            for table in ROUND_TABLES:
                world = made_world(table, net)
                known = standings(world) if table.many < 4 else walked_standings(world, some)
                for a in some.sample(known, min(len(known), 60)):
                    kind = kind_of(world, a)
                    if len(kind) > 1 and told.get((net.threads, table.beside, kind), 0) < 1:
                        told[(net.threads, table.beside, kind)] = 1
                        self.check_some(world, a, known, some)
        kinds = {kind for _, _, kind in told}
        self.assertLessEqual({(True, True, True), (True, True, False), (False, True, True), (False, True, False)}, kinds)

    def check_some(self, world, a, known, some):
        found = fewest(world, a)
        for b in some.sample(sorted(found), min(len(found), 40)):
            if a != b:
                self.check_link(world, a, b, found[b])
        for b in some.sample(known, min(len(known), 60)):
            self.assertIs(free_come(world, a, b), b in found)
            if b not in found:
                self.check_none(world, a, b)

    def test_the_least_of_all_links_is_told(self):
        # Fewer steps at place 0 first, then the lesser row there.
        cases = ((ring_net(5), unlike_coats(4)), (ring_net(5), DIAMOND_TABLE), (ring_net(6), ring_coats(4)),
                 (ring_net(6), all_coats(2)), (ring_net(8), all_coats(2)), (ring_net(8), unlike_coats(3)),
                 (EYE, DIAMOND_TABLE), (ROUND_NETS[2], unlike_coats(3)), (BOW, LOOP_TABLE), (ring_net(3), LOOP_TABLE))
        ties = {}
        for net, table in cases:
            world = made_world(table, net)
            for members in classes(world):
                if kind_of_large(world, members[0]) == ("round",):
                    for a in members[:2]:
                        for b in members:
                            tie = self.check_least(world, a, b)
                            ties[tie] = ties.get(tie, 0) + 1
        self.assertGreater(min(ties["steps"], ties["row"]), 20)

    def check_least(self, world, a, b):
        """Compare with all links with at most 6 steps at place 0; in what the best two of them differ."""
        found = []
        for first in even_straight_rows(world.table, a[0], 6):
            rows = followed(world, a, b, first) if first[-1] == b[0] else None
            if rows is not None:
                found.append((sum(len(row) - 1 for row in rows), len(first), first, rows))
        one, *more = sorted(found)[:2] if found else (None,)
        rows = free_link(world, a, b)
        if one is None or one[0] > sum(len(row) - 1 for row in rows):
            self.assertGreater(len(rows[0]), 7)
            return None
        self.assertEqual(rows, one[-1])
        if not more or more[0][0] > one[0]:
            return "sum"
        return "row" if more[0][1] == one[1] else "steps"

    def test_rings(self):
        some = 0
        for table, n, found in ring_cases():
            world = made_world(table, ring_net(n))
            for members in found[::4]:
                if ring_key(table, members[0])[0] > 0:
                    for b in members[::max(1, len(members) // 9)]:
                        self.assertEqual(free_least(world, members[-1], b), ring_least(table, members[-1], b))
                        some += 1
                else:
                    self.refuses(Null, 0, ring_least, table, members[0], members[0])
                    self.assertEqual(free_least(world, members[0], members[0]), 0)
        self.assertGreater(some, 200)

    def test_one_place(self):
        world = made_world(MIXED, line_net(1))
        self.assertEqual(free_link(world, (1,), (1,)), ((1,),))
        self.check_none(world, (1,), (2,))
        self.check_none(world, (0,), (4,))

    def test_a_tree_is_held_by_nothing(self):
        world = made_world(line_coats(3), line_net(3))
        self.refuses(Null, 0, free_link, world, (0, 1, 0), (2, 1, 2))
        self.refuses(Null, 0, free_least, world, (0, 1, 0), (2, 1, 2))
        self.check_none(world, (0, 1, 0), (1, 0, 1))

    def test_by_name(self):
        world = made_world(unlike_coats(3), ring_net(5))
        a, b = (0, 1, 2, 0, 1), (0, 1, 2, 0, 2)
        self.assertIs(free_come(world=world, a=a, b=b), True)
        self.assertEqual(free_link(world=world, a=a, b=b), ((0,), (1,), (2,), (0,), (1, 0, 2)))
        self.assertEqual(free_least(world=world, a=a, b=b), 1)

    def test_large_worlds(self):
        begun = time.perf_counter()
        two = net_of(tuple(range(13)), (0,) + tuple(range(13, 24)))
        three = net_of(tuple(range(24)), threads=((0, 9), (9, 18)))
        threads = tuple(sorted([(x, x + 1) for x in range(23)] + [(x, x + 2) for x in range(22)] +
                               [(x, x + 3) for x in range(15)]))
        for net, table in ((two, unlike_coats(3)), (two, all_coats(8)), (ring_net(24), unlike_coats(4)),
                           (three, ring_coats(3)), (made_net(24, threads), all_coats(8))):
            self.check_walks(made_world(table, net))
        self.assertLess(time.perf_counter() - begun, 20)

    def check_walks(self, world):
        """There and back, and no farther than a run that is known."""
        some = random.Random(3)
        for _ in range(3):
            a = grown(world, some)
            b, many = walked(world, a, some, 40)
            self.assertIs(free_come(world, a, b), True)
            if a != b and kind_of_large(world, a) != ("null",):
                self.assertTrue(link_right(world, a, b, free_link(world, a, b)))
                self.assertLessEqual(free_least(world, a, b), many)
                self.assertEqual(free_least(world, a, b), free_least(world, b, a))

    def test_far_round(self):
        # Round and round a ring of 24 places, with a core of 3 steps: the rows are long.
        table = unlike_coats(4)
        world = made_world(table, ring_net(23))
        a = (0, 1, 2) + (0, 3) * 10
        b = a[12:] + a[:12]
        self.assertEqual(free_least(world, a, b), ring_least(table, a, b))
        self.assertTrue(link_right(world, a, b, free_link(world, a, b)))


def grown(world, some):
    """Some standing of a world."""
    stones = ()
    while len(stones) < world.net.many:
        near = [stones[other] for other in world.net.near[len(stones)] if other < len(stones)]
        fit = [coat for coat in range(world.table.many) if all(other in world.table.beside[coat] for other in near)]
        stones = stones + (some.choice(fit),) if fit else ()
    return stones


def walked(world, a, some, most):
    """Where some run leads, and its number of deeds."""
    for many in range(most):
        known = deeds(world, a)
        if not known:
            return a, many
        a = after(a, some.choice(known))
    return a, most


def walked_standings(world, some):
    """Some standings that were grown, each with one that comes of it."""
    known = {grown(world, some) for _ in range(60)}
    return sorted(known | {walked(world, a, some, 30)[0] for a in sorted(known)})


def kind_of_large(world, a):
    """As kind_of, but without looking at all sets of places."""
    kept = set(range(world.net.many))
    while True:
        loose = {v for v in kept if len({a[u] for u in world.net.near[v] if u in kept}) < 2}
        if not loose:
            break
        kept -= loose
    if kept:
        return ("frozen",)
    return ("null",) if all(len(row) == 1 for row in closing_rows(world, a)) else ("round",)


class Errors(Case):

    def test_pegs_come_first(self):
        for pegs in ((0,), (1, 2), (2,), (0, 1, 2)):
            for net in (ring_net(3), line_net(3)):
                world = made_world(all_coats(2), net, pegs=pegs)
                for call in ALL_FREE + (tree_come,):
                    self.refuses(Pegged, pegs[0], call, world, (), ())
                    self.refuses(Pegged, pegs[0], call, world, (0, 0, 0), (9,))
                    self.refuses(Pegged, pegs[0], call, world, (0, 0, 0), (0, 0, 0))

    def test_standings(self):
        world = made_world(unlike_coats(3), ring_net(4))
        a = (0, 1, 0, 1)
        for call in ALL_FREE:
            self.refuses(BadSize, 0, call, world, (), ())
            self.refuses(BadSize, 5, call, world, (9,) * 5, ())
            self.refuses(BadStone, 3, call, world, (0, 1, 0, 0), ())
            self.refuses(BadSize, 3, call, world, a, (0, 1, 2))
            self.refuses(BadStone, 3, call, world, a, (0, 1, 2, 2))
            self.refuses(BadStone, 0, call, world, a, (-1, 1, 2, 2))

    def test_null_only_where_it_is_due(self):
        # Two lots of coats: what does not come is told so, and a itself is told, too.
        world = made_world(unlike_coats(2), ring_net(4))
        a, b = (0, 1, 0, 1), (1, 0, 1, 0)
        self.assertIsNone(free_link(world, a, b))
        self.assertIsNone(free_least(world, a, b))
        self.assertEqual(free_link(world, a, a), ((0,), (1,), (0,), (1,)))
        world = made_world(unlike_coats(3), ring_net(4))
        self.assertEqual(even_lots(world.table), (0, 0, 0))
        self.refuses(Null, 0, free_link, world, a, b)
        self.refuses(Null, 0, free_least, world, a, b)
        self.assertEqual(free_least(world, a, a), 0)
        self.assertIs(free_come(world, a, b), True)
        # A ring of six may be held by nothing and still not come of one that is frozen.
        world = made_world(unlike_coats(3), ring_net(6))
        self.assertIsNone(free_link(world, (0, 1) * 3, (0, 1, 2) * 2))
        self.assertIsNone(free_link(world, (0, 1, 2) * 2, (0, 1) * 3))


if __name__ == "__main__":
    unittest.main()
