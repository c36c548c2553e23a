"""Prices: [17]."""

import heapq
import unittest

from betweencoats.errors import BadPrice, BadSize, BadStone, NoPeg
from betweencoats.netshapes import line_net, ring_net
from betweencoats.prices import cost
from betweencoats.tableshapes import all_coats, unlike_coats
from betweencoats.work import least, work
from betweencoats.worlds import made_world
from tests.plainly import Case, after, deeds, small_worlds, standings, straight_ring_worlds

SQUARE = made_world(unlike_coats(3), ring_net(4), pegs=(0,))
LINE = made_world(all_coats(2), line_net(4), pegs=(0,))


def cheapest(world, a, prices):
    """For each standing that comes of a the least price of a run there."""
    paid, queue = {}, [(0, a)]
    while queue:
        price, state = heapq.heappop(queue)
        if state not in paid:
            paid[state] = price
            for deed in deeds(world, state):
                heapq.heappush(queue, (price + prices[deed[0]], after(state, deed)))
    return paid


class Prices(Case):

    def test_by_hand(self):
        a, b = (0, 0, 0, 0), (0, 1, 1, 0)
        self.assertEqual(work(LINE, a, b), (0, 1, 1, 2))
        self.assertEqual(cost(world=LINE, a=a, b=b, prices=(7, 5, 30, 400)), 835)
        self.assertEqual(cost(LINE, a, b, (0, 0, 0, 0)), 0)
        self.assertEqual(cost(LINE, a, b, (1, 1, 1, 1)), least(LINE, a, b))
        self.assertEqual(cost(LINE, a, b, (1000, 1000, 1000, 1000)), 4000)
        self.assertEqual(cost(LINE, a, b, (1000, 0, 1, 0)), 1)
        self.assertEqual(cost(LINE, a, a, (1000, 1000, 1, 0)), 0)
        self.assertIsNone(cost(LINE, a, (1, 0, 0, 0), (1, 1, 1, 1)))

    def test_against_a_search_by_prices(self):
        chosen = ((0, 1, 1000, 3, 17, 2, 999), (1000, 0, 0, 1, 1, 500, 7), (1, 2, 4, 8, 16, 32, 64))
        for world in list(small_worlds(pegged_only=True)) + list(straight_ring_worlds()):
            known = standings(world)
            for at, a in enumerate(known[::17]):
                prices = chosen[at % 3][:world.net.many]
                paid = cheapest(world, a, prices)
                for b in known[::2]:
                    self.assertEqual(cost(world, a, b, prices), paid.get(b))

    def test_too_few_and_too_many(self):
        a = (0, 1, 0, 1)
        # The second one does not come of a, the third one does.
        for b in ((0, 1, 0, 1), (1, 0, 1, 0), (0, 2, 0, 2)):
            self.refuses(BadSize, 0, cost, SQUARE, a, b, ())
            self.refuses(BadSize, 3, cost, SQUARE, a, b, (1, 2, 3))
            self.refuses(BadSize, 3, cost, SQUARE, a, b, (-1, 2, 1001))
            self.refuses(BadSize, 5, cost, SQUARE, a, b, (1, 2, 3, 4, 5))

    def test_out_of_range(self):
        a = (0, 1, 0, 1)
        for b in ((0, 1, 0, 1), (1, 0, 1, 0), (0, 2, 0, 2)):
            self.refuses(BadPrice, 0, cost, SQUARE, a, b, (-1, 0, 0, 0))
            self.refuses(BadPrice, 0, cost, SQUARE, a, b, (1001, 0, -1, 0))
            self.refuses(BadPrice, 3, cost, SQUARE, a, b, (0, 1000, 0, 1001))
            self.refuses(BadPrice, 2, cost, SQUARE, a, b, (1, 1, -10 ** 30, 10 ** 30))
            self.refuses(BadPrice, 1, cost, SQUARE, a, b, (1, 10 ** 30, 5, 5))

    def test_errors_come_in_their_order(self):
        a = (0, 1, 0, 1)
        free = made_world(unlike_coats(3), ring_net(4))
        self.refuses(NoPeg, 0, cost, free, (), (), ())
        self.refuses(BadSize, 1, cost, SQUARE, (0,), (9,) * 4, ())
        self.refuses(BadStone, 0, cost, SQUARE, a, (9,) * 4, ())
        self.refuses(BadStone, 3, cost, SQUARE, a, (0, 1, 0, 0), (-1,) * 4)
        self.refuses(BadSize, 1, cost, SQUARE, a, a, (-1,))


if __name__ == "__main__":
    unittest.main()
