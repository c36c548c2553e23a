"""Keys: [13]."""

import unittest

from betweencoats.errors import BadSize, BadStone, NoPeg
from betweencoats.keys import key
from betweencoats.netshapes import line_net, ring_net
from betweencoats.tableshapes import all_coats, unlike_coats
from betweencoats.worlds import made_world
from tests.plainly import Case, classes, frozen_places, small_worlds, standings, straight_ring_worlds
from tests.test_lifts import long_closings, long_lifts


class Keys(Case):

    def test_example(self):
        world = made_world(unlike_coats(3), ring_net(3), pegs=(0,))
        found = ((0, 1, 2), ((0,), (0, 1), (0, 2)), ((0, 1, 2, 0),))
        self.assertEqual(key(world, (0, 1, 2)), found)
        self.assertEqual(key(world=world, a=(0, 1, 2)), found)

    def test_by_hand(self):
        world = made_world(unlike_coats(3), ring_net(4), pegs=(0,))
        self.assertEqual(key(world, (0, 1, 0, 1)), ((0,), ((0,),), ((0,),)))
        self.assertEqual(key(world, (0, 1, 2, 1)), ((0,), ((0,),), ((0,),)))
        world = made_world(all_coats(2), line_net(4), pegs=(1, 3))
        self.assertEqual(key(world, (0, 0, 0, 1)), ((1, 2, 3), ((0,), (0, 0), (0, 0, 1)), ()))
        self.assertEqual(key(world, (1, 0, 1, 0)), ((1, 3), ((0,), (0,)), ()))
        world = made_world(all_coats(2), ring_net(3), pegs=(1,))
        self.assertEqual(key(world, (0, 0, 0)), ((1,), ((0,),), ((0, 0),)))

    def test_by_the_words(self):
        for world in small_worlds(pegged_only=True):
            for a in standings(world)[::5]:
                still, rows = frozen_places(world, a), long_lifts(world, a)
                wanted = (still, tuple(rows[place] for place in still), long_closings(world, a))
                self.assertEqual(key(world, a), wanted)

    def test_equal_just_where_a_search_leads(self):
        for world in list(small_worlds(pegged_only=True)) + list(straight_ring_worlds()):
            found = {}
            for members in classes(world):
                keys = {key(world, a) for a in members}
                self.assertEqual(len(keys), 1)
                self.assertNotIn(min(keys), found)
                found[min(keys)] = members

    def test_errors(self):
        free = made_world(unlike_coats(3), ring_net(4))
        for a in ((), (0, 1, 0), (0, 0, 0, 0), (9, 9, 9, 9), (0, 1, 0, 1)):
            self.refuses(NoPeg, 0, key, free, a)
        pegged = made_world(unlike_coats(3), ring_net(4), pegs=(2,))
        self.refuses(BadSize, 0, key, pegged, ())
        self.refuses(BadSize, 5, key, pegged, (9, 9, 9, 9, 9))
        self.refuses(BadStone, 1, key, pegged, (0, 0, 1, 2))
        self.refuses(BadStone, 3, key, pegged, (0, 1, 0, 0))


if __name__ == "__main__":
    unittest.main()
