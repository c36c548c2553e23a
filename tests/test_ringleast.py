"""The least number of deeds between rings: [33]."""

import time
import unittest

from betweencoats.errors import BadSize, BadStone, Null
from betweencoats.ringkeys import ring_key
from betweencoats.ringleast import ring_least
from betweencoats.netshapes import ring_net
from betweencoats.tableshapes import all_coats, unlike_coats
from betweencoats.worlds import made_world
from tests.plainly import Case, fewest, rested, ring_cases
from tests.test_ringkeys import core_by_the_words


class RingLeast(Case):

    def test_example(self):
        self.assertEqual(ring_least(unlike_coats(3), (0, 1, 2, 0, 1), (0, 1, 2, 0, 2)), 1)
        self.assertEqual(ring_least(table=unlike_coats(3), a=(0, 1, 2, 0, 1), b=(0, 1, 2, 0, 2)), 1)

    def test_against_a_search(self):
        told = set()
        for table, n, found in ring_cases():
            world = made_world(table, ring_net(n))
            for at, members in enumerate(found):
                if ring_key(table, members[0])[0] == 0:
                    continue
                for a in members[::max(3, len(members) // 5)]:
                    known = fewest(world, a)
                    for b in members:
                        self.assertEqual(ring_least(table, a, b), known[b])
                        told.add(known[b])
                for others in found[:at:5]:
                    self.assertIsNone(ring_least(table, members[0], others[0]))
        self.assertLessEqual(set(range(12)), told)

    def test_null(self):
        some = 0
        for table, _, found in ring_cases():
            for members in found:
                if ring_key(table, members[0])[0] == 0:
                    for others in found:
                        self.refuses(Null, 0, ring_least, table, members[-1], others[0])
                    self.refuses(Null, 0, ring_least, table, members[0], members[0])
                    some += 1
                else:
                    # The kind of b does not count.
                    for others in found:
                        if others != members:
                            self.assertIsNone(ring_least(table, members[0], others[0]))
        self.assertGreater(some, 30)

    def test_the_same_ring(self):
        for table, _, found in ring_cases():
            for members in found:
                if ring_key(table, members[0])[0] > 0:
                    self.assertEqual(ring_least(table, members[-1], members[-1]), 0)

    def test_large_rings(self):
        begun = time.perf_counter()
        some = set()
        for table, a, b in far_rings():
            there = ring_least(table, a, b)
            self.assertEqual(there, by_all_turns(a, b, 60))
            self.assertEqual(there, ring_least(table, b, a))
            self.assertEqual(there, ring_least(table, a[::-1], b[::-1]))
            self.assertEqual(there, ring_least(table, a[2:] + a[:2], b[2:] + b[:2]))
            some.add((len(ring_key(table, a)[1]), there > 24))
        self.assertLessEqual({(many, True) for many in (1, 4, 6, 7, 9, 22)}, some)
        self.assertLess(time.perf_counter() - begun, 20)

    def test_loops(self):
        table = all_coats(8)
        a = (0,) * 23
        for b, wanted in (((0,) * 23, 0), ((0,) * 22 + (3,), 1), ((0, 3, 0, 4) + (0,) * 19, 2)):
            self.assertEqual(ring_least(table, a, b), wanted)
            self.assertEqual(ring_least(table, b, a), wanted)


def turned_about(ring, many):
    """A ring after some deeds at places that are taken as they come."""
    stones, done, at = list(ring), 0, 7
    while done < many:
        at = (at * 5 + 3) % 1009
        place = at % len(ring)
        if stones[place - 1] == stones[(place + 1) % len(ring)]:
            roads = [coat for coat in range(4) if coat != stones[place - 1]]
            stones[place] = roads[at % 3]
        done += 1
    return tuple(stones)


def far_rings():
    """Rings of many stones that come of one another, with cores of few steps and of many."""
    table = unlike_coats(4)
    rings = ((0, 1, 2) * 7 + (0, 1), (0, 1, 2) * 7 + (3, 2, 3), (0, 1, 2, 3, 0) + (1, 2) * 9,
             (0, 1, 2, 3) + (0, 3) * 10, (0, 3, 1, 2, 3, 1, 2, 3, 1, 3) + (0, 3) * 7)
    for ring in rings:
        for many in (0, 100):
            a = turned_about(ring, many)
            for b in (a[8:] + a[:8], a[12:] + a[:12], turned_about(ring, 999)):
                yield table, a, b
    loop = (2, 3, 0, 0, 0, 0, 1, 1, 1, 4, 4, 5, 4, 1, 2, 3, 3, 3, 2, 2, 2, 1, 2)
    tail = (0, 1, 2, 3, 4, 5, 6, 6, 5, 4, 3, 2, 1) + (0, 7) * 5
    for turn in (1, 2, 7, 11, 12):
        yield all_coats(8), loop, loop[turn:] + loop[:turn]
        yield all_coats(8), tail, tail[turn:] + tail[:turn]


def by_all_turns(a, b, most):
    """Half the least sum of steps of the links of up to so many turns this way or that, as [33] tells them."""
    (tail, core), (end, goal) = core_by_the_words(a + a[:1]), core_by_the_words(b + b[:1])
    m, n, sums = len(core) - 1, len(a), []
    for j in range(-most, most + 1):
        step = 1 if j > 0 else -1
        y = tail + tuple(core[step * at % m] for at in range(1, abs(j) + 1))
        if (len(y) + len(end)) % 2 == 0 and all(core[(j + at) % m] == goal[at] for at in range(m)):
            rows = [rested(y + end[::-1][1:])]
            for place in range(1, n):
                rows.append(rested((a[place],) + rows[-1] + (b[place],)))
            sums.append(sum(len(row) - 1 for row in rows))
    return min(sums) // 2


class Errors(Case):

    def test_lengths(self):
        table = unlike_coats(3)
        self.refuses(BadSize, 4, ring_least, table, (0, 1, 2), (0, 1, 0, 1))
        self.refuses(BadSize, 3, ring_least, table, (0, 1, 0, 1), (0, 1, 2))
        self.refuses(BadSize, 24, ring_least, table, (0, 1, 2, 0, 1), (0, 1) * 12)
        # Ahead of the kind of a.
        self.refuses(BadSize, 6, ring_least, table, (0, 1, 0, 1), (0, 1) * 3)
        self.refuses(Null, 0, ring_least, table, (0, 1, 0, 1), (0, 2, 0, 2))

    def test_the_first_ring_comes_first(self):
        table = unlike_coats(3)
        self.refuses(BadSize, 2, ring_least, table, (0, 1), ())
        self.refuses(BadStone, 2, ring_least, table, (0, 1, 0), ())
        self.refuses(BadSize, 0, ring_least, table, (0, 1, 2), ())
        self.refuses(BadSize, 25, ring_least, table, (0, 1, 0, 1), (0,) * 25)
        self.refuses(BadStone, 1, ring_least, table, (0, 1, 0, 1), (0, 0, 0, 0, 0))
        self.refuses(BadStone, 4, ring_least, table, (0, 1, 0, 1), (0, 1, 0, 1, 0))


if __name__ == "__main__":
    unittest.main()
