"""Nets, apart and uppers: [2]."""

import itertools
import unittest

from betweencoats.apart import apart, uppers
from betweencoats.errors import BadCount, BadNet, BadPlace, BadSize, Parted
from betweencoats.nets import made_net
from betweencoats.netshapes import grid_net, line_net, ring_net, star_net
from betweencoats.tables import made_table
from tests.plainly import BOW, EYE, KITE, Case, neighbours

FULL = tuple(itertools.combinations(range(24), 2))


def reached(many, threads):
    """The places to which threads lead from 0."""
    known = {0}
    for _ in range(many):
        known |= {y for x, y in threads if x in known} | {x for x, y in threads if y in known}
    return known


class MadeNets(Case):

    def test_keeps_places_and_threads(self):
        net = made_net(4, ((0, 1), (0, 3), (1, 2)))
        self.assertEqual(net.many, 4)
        self.assertEqual(net.threads, ((0, 1), (0, 3), (1, 2)))
        self.assertEqual(net.near, ((1, 3), (0, 2), (1,), (0,)))
        self.assertEqual(made_net(many=1, threads=()).near, ((),))

    def test_one_to_24_places(self):
        self.refuses(BadSize, 0, made_net, 0, ())
        self.refuses(BadSize, -1, made_net, -1, ())
        self.assertEqual(made_net(1, ()).many, 1)
        line = tuple((x, x + 1) for x in range(24))
        self.assertEqual(made_net(24, line[:23]).many, 24)
        self.refuses(BadSize, 25, made_net, 25, line)

    def test_up_to_60_threads(self):
        self.assertEqual(made_net(24, FULL[:60]).threads, FULL[:60])
        self.refuses(BadSize, 61, made_net, 24, FULL[:61])

    def test_threads_are_pairs_of_places(self):
        self.refuses(BadNet, 0, made_net, 2, ((0, 2),))
        self.refuses(BadNet, 0, made_net, 2, ((-1, 1),))
        self.refuses(BadNet, 0, made_net, 2, ((1, 0),))
        self.refuses(BadNet, 0, made_net, 2, ((0, 0),))
        self.refuses(BadNet, 0, made_net, 1, ((0, 0),))
        self.refuses(BadNet, 1, made_net, 3, ((0, 1), (1, 1), (1, 2)))
        self.refuses(BadNet, 1, made_net, 3, ((0, 1), (1, 3)))
        self.refuses(BadNet, 0, made_net, 2, ((0, 1, 1),))

    def test_threads_ascend(self):
        self.refuses(BadNet, 1, made_net, 3, ((1, 2), (0, 1)))
        self.refuses(BadNet, 2, made_net, 3, ((0, 1), (0, 2), (0, 1)))
        self.refuses(BadNet, 1, made_net, 3, ((0, 2), (0, 1), (1, 2)))
        self.refuses(BadNet, 1, made_net, 2, ((0, 1), (0, 1)))

    def test_threads_lead_to_every_place(self):
        self.refuses(Parted, 1, made_net, 2, ())
        self.refuses(Parted, 2, made_net, 4, ((0, 1), (2, 3)))
        self.refuses(Parted, 1, made_net, 4, ((0, 3), (1, 2)))
        self.refuses(Parted, 1, made_net, 24, tuple((0, x) for x in range(2, 24)))
        self.refuses(Parted, 23, made_net, 24, tuple((0, x) for x in range(1, 23)))

    def test_order_of_faults(self):
        self.refuses(BadSize, 0, made_net, 0, FULL[:61])
        self.refuses(BadSize, 25, made_net, 25, ((5, 1),))
        self.refuses(BadSize, 61, made_net, 3, ((5, 1),) * 61)
        self.refuses(BadNet, 1, made_net, 4, ((0, 1), (0, 1), (9, 9)))
        self.refuses(BadNet, 1, made_net, 4, ((0, 1), (3, 9)))

    def test_all_small_nets(self):
        pairs = tuple(itertools.product(range(-1, 4), repeat=2))
        for many in (1, 2, 3):
            for size in range(3):
                for threads in itertools.product(pairs, repeat=size):
                    self.check_net(many, threads)

    def check_net(self, many, threads):
        bad = [i for i, (x, y) in enumerate(threads)
               if not 0 <= x < y < many or i > 0 and threads[i - 1] >= threads[i]]
        missing = sorted(set(range(many)) - reached(many, threads))
        if bad:
            self.refuses(BadNet, bad[0], made_net, many, threads)
        elif missing:
            self.refuses(Parted, missing[0], made_net, many, threads)
        else:
            net = made_net(many, threads)
            self.assertEqual(net.near, tuple(tuple(neighbours(net, x)) for x in range(many)))

    def test_near_is_ascending(self):
        self.assertEqual(KITE.near, ((3,), (3, 4), (3, 4), (0, 1, 2), (1, 2)))
        self.assertEqual(BOW.near, ((1, 2), (0, 2), (0, 1, 3, 4), (2, 4), (2, 3)))
        for net in (KITE, BOW, EYE, ring_net(7), grid_net(4, 3)):
            self.assertEqual(net.near, tuple(tuple(neighbours(net, x)) for x in range(net.many)))

    def test_equal(self):
        net = made_net(3, ((0, 1), (1, 2)))
        self.assertTrue(net == made_net(3, ((0, 1), (1, 2))))
        self.assertFalse(net != made_net(3, ((0, 1), (1, 2))))
        self.assertTrue(net == line_net(3))
        others = (made_net(3, ((0, 1), (0, 2))), made_net(3, ((0, 1), (0, 2), (1, 2))), line_net(4), line_net(1))
        for other in others:
            self.assertFalse(net == other)
            self.assertTrue(net != other)
        for other in (None, 3, "net", ((0, 1), (1, 2)), (3, ((0, 1), (1, 2))), made_table(((),))):
            self.assertIs(net == other, False)
            self.assertIs(other == net, False)
            self.assertIs(net != other, True)


class NetShapes(Case):

    def test_line_net(self):
        self.refuses(BadCount, 0, line_net, 0)
        self.refuses(BadCount, -1, line_net, -1)
        self.assertEqual(line_net(1).threads, ())
        self.assertEqual(line_net(n=4).threads, ((0, 1), (1, 2), (2, 3)))
        self.assertEqual(line_net(24).threads, tuple((x, x + 1) for x in range(23)))
        self.refuses(BadCount, 25, line_net, 25)

    def test_star_net(self):
        self.refuses(BadCount, 0, star_net, 0)
        self.refuses(BadCount, -1, star_net, -1)
        self.assertEqual(star_net(1).threads, ())
        self.assertEqual(star_net(n=4).threads, ((0, 1), (0, 2), (0, 3)))
        self.assertEqual(star_net(24).threads, tuple((0, x) for x in range(1, 24)))
        self.refuses(BadCount, 25, star_net, 25)

    def test_ring_net(self):
        for n in (-1, 0, 1, 2, 25):
            self.refuses(BadCount, n, ring_net, n)
        self.assertEqual(ring_net(3).threads, ((0, 1), (0, 2), (1, 2)))
        self.assertEqual(ring_net(n=5).threads, ((0, 1), (0, 4), (1, 2), (2, 3), (3, 4)))
        self.assertEqual(ring_net(24).threads, tuple(sorted([(x, x + 1) for x in range(23)] + [(0, 23)])))

    def test_grid_net(self):
        self.assertEqual(grid_net(1, 1).threads, ())
        self.assertEqual(grid_net(2, 3).threads, ((0, 1), (0, 2), (1, 3), (2, 3), (2, 4), (3, 5), (4, 5)))
        self.assertEqual(grid_net(w=3, h=2).threads, ((0, 1), (0, 3), (1, 2), (1, 4), (2, 5), (3, 4), (4, 5)))
        self.assertTrue(grid_net(24, 1) == line_net(24))
        self.assertTrue(grid_net(1, 24) == line_net(24))
        self.assertTrue(grid_net(2, 1) == line_net(2))

    def test_grid_net_refuses(self):
        self.refuses(BadCount, 0, grid_net, 0, 1)
        self.refuses(BadCount, 25, grid_net, 25, 1)
        self.refuses(BadCount, 0, grid_net, 1, 0)
        self.refuses(BadCount, 25, grid_net, 1, 25)
        self.refuses(BadCount, 26, grid_net, 26, 25)
        self.refuses(BadCount, -2, grid_net, -2, -3)
        self.refuses(BadCount, 30, grid_net, 24, 30)
        self.refuses(BadSize, 25, grid_net, 5, 5)
        self.refuses(BadSize, 48, grid_net, 2, 24)
        self.refuses(BadSize, 576, grid_net, 24, 24)

    def test_grids_by_their_words(self):
        for w, h in itertools.product(range(1, 25), repeat=2):
            if w * h <= 24:
                pairs = [(y * w + x, y * w + x + 1) for x in range(w - 1) for y in range(h)]
                pairs += [(y * w + x, (y + 1) * w + x) for x in range(w) for y in range(h - 1)]
                self.assertTrue(grid_net(w, h) == made_net(w * h, tuple(sorted(pairs))))

    def test_shapes_are_sound(self):
        for shape, least in ((line_net, 1), (star_net, 1), (ring_net, 3)):
            for n in range(least, 25):
                net = shape(n)
                self.assertTrue(net == made_net(n, net.threads))
                self.assertEqual(net.near, made_net(n, net.threads).near)


class Apart(Case):

    def test_small_nets(self):
        self.assertEqual(apart(line_net(1), 0), (0,))
        self.assertEqual(uppers(line_net(1), 0), (-1,))
        self.assertEqual(apart(net=line_net(4), x=1), (1, 0, 1, 2))
        self.assertEqual(uppers(net=line_net(4), x=1), (1, -1, 1, 2))
        self.assertEqual(apart(ring_net(5), 0), (0, 1, 2, 2, 1))
        self.assertEqual(uppers(ring_net(5), 0), (-1, 0, 1, 4, 0))
        self.assertEqual(apart(ring_net(4), 2), (2, 1, 0, 1))
        self.assertEqual(uppers(ring_net(4), 2), (1, 2, -1, 2))
        self.assertEqual(uppers(star_net(4), 2), (2, 0, -1, 0))

    def test_first_come_first_taken(self):
        # 4 is come to before 2, for its upper 3 was come to before 5; so it is the upper of 1.
        net = made_net(6, ((0, 3), (0, 5), (1, 2), (1, 4), (2, 5), (3, 4)))
        self.assertEqual(uppers(net, 0), (-1, 4, 5, 0, 3, 0))
        # Likewise 2 is come to before 1 and is the upper of 5, though it is the greater place.
        net = made_net(6, ((0, 3), (0, 4), (1, 4), (1, 5), (2, 3), (2, 5)))
        self.assertEqual(uppers(net, 0), (-1, 4, 3, 0, 0, 2))

    def test_by_their_words(self):
        for net in (line_net(5), ring_net(3), ring_net(6), star_net(5), grid_net(3, 3), KITE, BOW, EYE):
            for x in range(net.many):
                self.check_from(net, x)

    def check_from(self, net, x):
        order, upper, far = [x], {x: -1}, {x: 0}
        for place in order:
            for other in neighbours(net, place):
                if other not in upper:
                    order.append(other)
                    upper[other] = place
        known = {x}
        for steps in range(1, net.many):
            known |= {other for place in known for other in neighbours(net, place)}
            for place in known:
                far.setdefault(place, steps)
        self.assertEqual(apart(net, x), tuple(far[place] for place in range(net.many)))
        self.assertEqual(uppers(net, x), tuple(upper[place] for place in range(net.many)))

    def test_no_place(self):
        for question in (apart, uppers):
            self.refuses(BadPlace, -1, question, line_net(3), -1)
            self.refuses(BadPlace, 3, question, line_net(3), 3)
            self.refuses(BadPlace, 10 ** 30, question, ring_net(3), 10 ** 30)
            self.refuses(BadPlace, 1, question, line_net(1), 1)


if __name__ == "__main__":
    unittest.main()
