"""Forks, meetings of three, and gathering: [18], [19]."""

import itertools
import unittest

from betweencoats.betweens import between
from betweencoats.errors import BadSize, BadStone, NoPeg
from betweencoats.forks import forks
from betweencoats.links import link
from betweencoats.meets import gathering, meets
from betweencoats.netshapes import grid_net, line_net, ring_net, star_net
from betweencoats.pegs import with_pegs
from betweencoats.prices import cost
from betweencoats.tableshapes import all_coats, line_coats, ring_coats, unlike_coats
from betweencoats.work import least
from betweencoats.worlds import made_world
from tests.plainly import (
    MIXED, Case, after, classes, deeds, fewest, neighbours, small_worlds, standings, straight_ring_worlds)

THREE = made_world(unlike_coats(4), line_net(3), pegs=(0, 2))
CALLS = (forks, meets, gathering)


def fork_worlds():
    """Worlds in which three ways may part at a place."""
    yield THREE
    yield made_world(unlike_coats(4), line_net(4), pegs=(0,))
    yield made_world(unlike_coats(4), star_net(4), pegs=(1,))
    yield made_world(all_coats(3), line_net(4), pegs=(0,))
    yield made_world(all_coats(3), ring_net(4), pegs=(2,))
    yield made_world(unlike_coats(4), ring_net(4), pegs=(0,))
    yield made_world(all_coats(3), grid_net(3, 2), pegs=(0, 5))
    yield made_world(MIXED, line_net(5), pegs=(0, 4))
    yield made_world(MIXED, star_net(4), pegs=(2,))


def triples(world, most):
    """Some triples of standings of one class."""
    for members in classes(world):
        some = members[::1 + len(members) // most]
        for three in itertools.product(some, some, some):
            yield three


def beginning(one, two):
    """The steps of the longest common beginning of two rows."""
    return max(at for at in range(min(len(one), len(two))) if one[:at + 1] == two[:at + 1])


def met_by_the_words(world, a, b, c):
    """The forks and the three standings."""
    found, stones = [], []
    for place, (one, two) in enumerate(zip(link(world, a, b), link(world, a, c))):
        k = beginning(one, two)
        if k % 2 == 1:
            found.append(place)
            stones.append((one[k - 1], one[k + 1], two[k + 1]))
        else:
            stones.append((one[k],) * 3)
    return tuple(found), tuple(zip(*stones))


class Examples(Case):

    def test_example(self):
        a, b, c = (0, 1, 0), (0, 2, 0), (0, 3, 0)
        self.assertEqual(link(THREE, a, b)[1], (1, 0, 2))
        self.assertEqual(link(THREE, a, c)[1], (1, 0, 3))
        self.assertEqual(forks(world=THREE, a=a, b=b, c=c), (1,))
        self.assertEqual(meets(world=THREE, a=a, b=b, c=c), (a, b, c))
        self.assertEqual(gathering(world=THREE, a=a, b=b, c=c), (2, 3))

    def test_all_alike(self):
        for world in fork_worlds():
            for a in standings(world)[::5]:
                self.assertEqual(forks(world, a, a, a), ())
                self.assertEqual(meets(world, a, a, a), (a, a, a))
                self.assertEqual(gathering(world, a, a, a), (0, 1))

    def test_two_alike(self):
        a, b = (0, 1, 0), (0, 2, 0)
        for three in ((a, a, b), (a, b, a), (b, a, a)):
            self.assertEqual(forks(THREE, *three), ())
            self.assertEqual(meets(THREE, *three), (a, a, a))
            self.assertEqual(gathering(THREE, *three), (1, 1))

    def test_without_forks(self):
        # A line of places that change one after the other, and a table with two roads at each coat.
        world = made_world(all_coats(2), line_net(4), pegs=(0,))
        a, b, c = (0, 0, 0, 0), (0, 1, 1, 0), (0, 0, 0, 1)
        self.assertEqual(forks(world, a, b, c), ())
        self.assertEqual(meets(world, a, b, c), (c, c, c))
        self.assertEqual(gathering(world, a, b, c), (4, 1))

    def test_several_forks(self):
        world = made_world(unlike_coats(4), star_net(4), pegs=(0,))
        a, b, c = (0, 1, 1, 1), (0, 2, 2, 1), (0, 3, 3, 2)
        self.assertEqual(forks(world, a, b, c), (1, 2))
        self.assertEqual(meets(world, a, b, c), ((0, 1, 1, 1), (0, 2, 2, 1), (0, 3, 3, 1)))
        self.assertEqual(gathering(world, a, b, c), (5, 9))

    def test_what_does_not_come(self):
        a, b, other = (0, 1, 0), (0, 2, 0), (1, 0, 1)
        for call in CALLS:
            for three in ((a, b, other), (a, other, b), (other, a, b), (a, other, other), (a, other, (2, 0, 2))):
                self.assertIsNone(call(THREE, *three))

    def test_many_forks(self):
        world = made_world(unlike_coats(4), star_net(24), pegs=(0,))
        three = [(0,) + (coat,) * 23 for coat in (1, 2, 3)]
        self.assertEqual(forks(world, *three), tuple(range(1, 24)))
        self.assertEqual(meets(world, *three), tuple(three))
        self.assertEqual(gathering(world, *three), (46, 3 ** 23))


class Meets(Case):

    def test_by_the_words(self):
        with_forks = 0
        for world in list(fork_worlds()) + list(small_worlds(pegged_only=True)) + list(straight_ring_worlds()):
            for a, b, c in triples(world, 3):
                places, three = met_by_the_words(world, a, b, c)
                self.assertEqual(forks(world, a, b, c), places)
                self.assertEqual(meets(world, a, b, c), three)
                with_forks += len(places) > 0
        self.assertGreater(with_forks, 100)

    def test_in_each_order(self):
        with_forks = 0
        for world in fork_worlds():
            for three in list(triples(world, 4))[::5]:
                places, found = forks(world, *three), meets(world, *three)
                for order in itertools.permutations(range(3)):
                    mixed = [three[at] for at in order]
                    self.assertEqual(forks(world, *mixed), places)
                    self.assertEqual(meets(world, *mixed), tuple(found[at] for at in order))
                    self.assertEqual(gathering(world, *mixed), gathering(world, *three))
                with_forks += len(places) > 0
        self.assertGreater(with_forks, 10)

    def test_what_holds_of_forks(self):
        for world in fork_worlds():
            for three in triples(world, 5):
                places, found = forks(world, *three), meets(world, *three)
                rows = link(world, three[0], three[1])
                self.assertEqual(meets(world, *found), found)
                for place in range(world.net.many):
                    coats = {standing[place] for standing in found}
                    self.assertEqual(len(coats), 3 if place in places else 1)
                for place in places:
                    near = {standing[other] for standing in found for other in neighbours(world.net, place)}
                    self.assertEqual(len(near), 1)
                    self.assertIn(min(near), rows[place])
                    self.assertFalse(set(places) & set(neighbours(world.net, place)))

    def test_no_forks_with_two_roads(self):
        for table in (all_coats(2), unlike_coats(3), line_coats(4), ring_coats(5)):
            for net in (line_net(4), ring_net(4), star_net(4)):
                world = made_world(table, net, pegs=(1,))
                for three in triples(world, 4):
                    self.assertEqual(forks(world, *three), ())

    def test_ways_over_the_meetings(self):
        for world in fork_worlds():
            for three in list(triples(world, 4))[::3]:
                far = {standing: fewest(world, standing) for standing in set(three)}
                found, many = meets(world, *three), len(forks(world, *three))
                for one, two in itertools.permutations(range(3), 2):
                    self.assertIn(found[one], far[three[one]])
                    first, last = far[three[one]][found[one]], far[three[two]][found[two]]
                    self.assertEqual(far[three[one]][three[two]], first + many + last)
                    self.assertEqual(least(world, found[one], found[two]), many)
                    self.assertIs(between(world, three[one], found[one], three[two]), True)
                middle = between(world, three[0], three[1], three[2])
                self.assertIs(middle, found == (three[1],) * 3)

    def test_deeds_at_the_forks(self):
        for world in fork_worlds():
            for three in triples(world, 3):
                found = meets(world, *three)
                for places in itertools.permutations(forks(world, *three)):
                    state = found[0]
                    for place in places:
                        self.assertIn((place, found[1][place]), deeds(world, state))
                        state = after(state, (place, found[1][place]))
                    self.assertEqual(state, found[1])

    def test_more_pegs(self):
        for world in fork_worlds():
            for three in list(triples(world, 4))[::3]:
                rows = zip(link(world, three[0], three[1]), link(world, three[0], three[2]))
                still = tuple(place for place, (one, two) in enumerate(rows) if len(one) == len(two) == 1)
                for more in (still, still[::2], still[1::2]):
                    other = with_pegs(world, more)
                    for call in CALLS:
                        self.assertEqual(call(other, *three), call(world, *three))


class Gathering(Case):

    def test_against_a_search(self):
        for world in list(fork_worlds()) + list(small_worlds(pegged_only=True))[::4]:
            for three in list(triples(world, 4))[::3]:
                far = [fewest(world, standing) for standing in three]
                sums = [far[0][s] + far[1][s] + far[2][s] for s in far[0]]
                self.assertEqual(gathering(world, *three), (min(sums), sums.count(min(sums))))
                twice = far[0][three[1]] + far[1][three[2]] + far[2][three[0]] + len(forks(world, *three))
                self.assertEqual(2 * min(sums), twice)

    def test_least_whatever_the_prices(self):
        chosen = ((0, 1, 1000, 3, 17, 2), (1000, 0, 0, 1, 1, 500), (1, 2, 4, 8, 16, 32))
        for world in fork_worlds():
            for at, three in enumerate(list(triples(world, 3))[::2]):
                prices = chosen[at % 3][:world.net.many]
                sums = {
                    s: sum(cost(world, standing, s, prices) for standing in three) for s in fewest(world, three[0])}
                for standing in meets(world, *three):
                    self.assertEqual(sums[standing], min(sums.values()))


class Errors(Case):

    def test_errors_come_in_their_order(self):
        free = made_world(unlike_coats(4), line_net(3))
        a, other = (0, 1, 0), (1, 0, 1)
        for call in CALLS:
            self.refuses(NoPeg, 0, call, free, (), (), ())
            self.refuses(BadSize, 1, call, THREE, (0,), (), (9, 9, 9))
            self.refuses(BadSize, 0, call, THREE, a, (), (9, 9, 9))
            self.refuses(BadStone, 0, call, THREE, a, (9, 9, 9), ())
            self.refuses(BadStone, 2, call, THREE, a, other, (0, 1, 1))
            self.refuses(BadSize, 4, call, THREE, a, a, (0, 1, 0, 1))


if __name__ == "__main__":
    unittest.main()
