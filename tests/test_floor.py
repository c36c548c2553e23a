"""The floor: [41]."""

import random
import unittest

from betweencoats import floor
from betweencoats.errors import (
    BadCoat, BadPlace, BadSize, BadStone, Base, NoPeg, NothingToRedo, NothingToUndo, NotAmong, NotPegged, Pegged, TooMany)
from betweencoats.floor import Floor
from betweencoats.leastruns import least_run
from betweencoats.netshapes import line_net, ring_net, star_net
from betweencoats.nets import made_net
from betweencoats.same import come
from betweencoats.tableshapes import all_coats, unlike_coats
from betweencoats.worlds import World, made_world
from tests.plainly import BOW, KITE, MIXED, Case, after, deeds, neighbours, rested, standings

SQUARE = made_world(unlike_coats(3), ring_net(4), pegs=(0,))
START = (0, 1, 0, 1)


class Plain:
    """A floor the long way: it keeps the deeds alone, and does all of them anew each time."""

    def __init__(self, world, standing):
        self.opening, self.start, self.deeds, self.undone = world, standing, [], []

    def add(self, deed):
        self.deeds.append(deed)
        self.undone = []

    def pegs(self):
        found = set(self.opening.pegs)
        for deed in self.deeds:
            if deed[0] == "peg":
                found.add(deed[1])
            elif deed[0] == "unpeg":
                found.remove(deed[1])
        return tuple(sorted(found))

    def world(self):
        return made_world(self.opening.table, self.opening.net, pegs=self.pegs())

    def walk(self):
        """The standing, the rows of the trace, and by how many steps each put made them longer."""
        state, rows, longer = self.start, [(coat,) for coat in self.start], []
        for deed in self.deeds:
            if deed[0] == "put":
                around = {state[other] for other in neighbours(self.opening.net, deed[1])}
                row = rested(rows[deed[1]] + (min(around), deed[3]))
                longer.append(len(row) - len(rows[deed[1]]))
                rows[deed[1]] = row
                state = after(state, (deed[1], deed[3]))
        return state, tuple(rows), longer


class Floors(Case):

    def check(self, one, plain):
        state, rows, longer = plain.walk()
        world = plain.world()
        self.assertEqual(one.now(), state)
        self.assertEqual(one.world(), world)
        self.assertEqual(one.world().base, world.base)
        self.assertEqual(one.record(), tuple(plain.deeds))
        self.assertEqual(one.trace(), rows)
        self.assertEqual(one.away(), sum(len(row) - 1 for row in rows) // 2)
        self.assertEqual(one.account(), (len(longer), longer.count(2), longer.count(0), longer.count(-2)))
        self.assertEqual(one.account()[0], sum(one.account()[1:]))
        self.assertEqual(one.away(), one.account()[1] - one.account()[3])
        home = one.home()
        self.assertEqual(home, least_run(world, state, plain.start))
        self.assertIs(home is not None, come(world, state, plain.start))
        if home is not None:
            self.assertEqual(len(home), one.away())
        for thing in (one.record(), one.trace(), one.account(), one.now()):
            self.assertIs(type(thing), tuple)

    def test_at_its_beginning(self):
        one = Floor(world=SQUARE, standing=START)
        self.check(one, Plain(SQUARE, START))
        self.assertEqual(one.record(), ())
        self.assertEqual(one.trace(), ((0,), (1,), (0,), (1,)))
        self.assertEqual((one.away(), one.home(), one.account()), (0, (), (0, 0, 0, 0)))

    def test_by_hand(self):
        one = Floor(SQUARE, START)
        self.assertIsNone(one.put(place=1, coat=2))
        self.assertEqual(one.now(), (0, 2, 0, 1))
        self.assertIsNone(one.peg(place=2))
        self.assertIsNone(one.put(3, 2))
        self.assertEqual(one.record(), (("put", 1, 1, 2), ("peg", 2), ("put", 3, 1, 2)))
        self.assertEqual(one.world(), made_world(unlike_coats(3), ring_net(4), pegs=(0, 2)))
        self.assertEqual(one.trace(), ((0,), (1, 0, 2), (0,), (1, 0, 2)))
        self.assertEqual((one.away(), one.home(), one.account()), (2, ((1, 1), (3, 1)), (2, 2, 0, 0)))
        self.assertIsNone(one.unpeg(place=2))
        self.assertIsNone(one.put(2, 1))
        self.assertIsNone(one.put(2, 0))
        self.assertEqual(one.account(), (4, 3, 0, 1))
        self.assertIsNone(one.put(1, 1))
        self.assertIsNone(one.put(3, 1))
        self.assertEqual((one.away(), one.home(), one.account()), (0, (), (6, 3, 0, 3)))
        self.assertIsNone(one.undo())
        self.assertEqual(one.now(), (0, 1, 0, 2))
        self.assertIsNone(one.redo())
        self.assertEqual(one.now(), START)

    def test_a_put_that_leaves_the_length(self):
        world = made_world(unlike_coats(4), line_net(2), pegs=(0,))
        one = Floor(world, (0, 1))
        for coat, account, rows in ((2, (1, 1, 0, 0), (1, 0, 2)), (3, (2, 1, 1, 0), (1, 0, 3)), (1, (3, 1, 1, 1), (1,))):
            one.put(1, coat)
            self.assertEqual((one.account(), one.trace()), (account, ((0,), rows)))

    def test_what_is_returned_does_not_change(self):
        one = Floor(SQUARE, START)
        one.put(1, 2)
        kept = [one.now(), one.world(), one.record(), one.trace(), one.account(), one.home()]
        copies = [(0, 2, 0, 1), SQUARE, (("put", 1, 1, 2),), ((0,), (1, 0, 2), (0,), (1,)), (1, 1, 0, 0), ((1, 1),)]
        one.peg(3)
        one.undo()
        one.undo()
        one.peg(2)
        self.assertEqual(kept, copies)

    def test_no_way_home(self):
        world = made_world(all_coats(2), line_net(3), pegs=(0,))
        one = Floor(world, (0, 0, 0))
        one.put(2, 1)
        self.assertEqual(one.home(), ((2, 0),))
        one.peg(2)
        self.assertIsNone(one.home())
        self.assertEqual(one.away(), 1)
        one.undo()
        self.assertEqual(one.home(), ((2, 0),))
        one.peg(1)
        self.assertEqual(one.home(), ((2, 0),))
        # A lesser peg than the base of the opening is the base now.
        world = made_world(all_coats(2), line_net(3), pegs=(2,))
        one = Floor(world, (0, 0, 0))
        one.put(0, 1)
        one.peg(0)
        self.assertEqual(one.world().base, 0)
        self.assertIsNone(one.home())
        one.unpeg(0)
        self.assertEqual(one.home(), ((0, 0),))

    def test_at_each_step(self):
        some = random.Random(4)
        worlds = [SQUARE, made_world(all_coats(2), line_net(4), pegs=(2,)), made_world(MIXED, KITE, pegs=(1, 3)),
                  made_world(unlike_coats(4), star_net(5), pegs=(3,)), made_world(all_coats(3), BOW, pegs=(4,)),
                  made_world(unlike_coats(3), line_net(6), pegs=(0, 5))]
        for world in worlds:
            for start in some.sample(standings(world), 3):
                one, plain = Floor(world, start), Plain(world, start)
                for _ in range(60):
                    self.some_deed(one, plain, some)
                    self.check(one, plain)

    def some_deed(self, one, plain, some):
        """Do one thing at both floors, refused or not."""
        world, state = plain.world(), plain.walk()[0]
        place = some.randrange(world.net.many)
        chance = some.randrange(12)
        known = deeds(world, state)
        if chance < 6 and known:
            deed = some.choice(known)
            one.put(*deed)
            plain.add(("put", deed[0], state[deed[0]], deed[1]))
        elif chance == 6 and place not in world.pegs:
            one.peg(place)
            plain.add(("peg", place))
        elif chance == 7 and place in world.pegs and place != plain.opening.base:
            one.unpeg(place)
            plain.add(("unpeg", place))
        elif chance in (8, 9) and plain.deeds:
            one.undo()
            plain.undone.append(plain.deeds.pop())
        elif chance in (10, 11) and plain.undone:
            one.redo()
            plain.deeds.append(plain.undone.pop())
        elif not plain.undone:
            self.refuses(NothingToRedo, 0, one.redo)

    def test_undo_all_and_redo_all(self):
        one, plain = Floor(SQUARE, START), Plain(SQUARE, START)
        one.put(1, 2), one.peg(2), one.put(3, 2), one.unpeg(2), one.put(2, 1), one.peg(3)
        plain.deeds = list(one.record())
        whole = one.record()
        for many in range(6, 0, -1):
            one.undo()
            self.assertEqual(one.record(), whole[:many - 1])
            plain.deeds = list(whole[:many - 1])
            self.check(one, plain)
        self.refuses(NothingToUndo, 0, one.undo)
        for many in range(1, 7):
            one.redo()
            plain.deeds = list(whole[:many])
            self.check(one, plain)
        self.refuses(NothingToRedo, 0, one.redo)

    def test_a_new_deed_ends_redoing(self):
        for call, args in (("put", (1, 2)), ("put", (3, 2)), ("peg", (2,)), ("unpeg", (1,))):
            one = Floor(made_world(unlike_coats(3), ring_net(4), pegs=(0,)), START)
            if call == "unpeg":
                one.peg(1)
            one.put(3, 2)
            one.undo()
            getattr(one, call)(*args)
            self.refuses(NothingToRedo, 0, one.redo)

    def test_a_refused_deed_does_not(self):
        one = Floor(SQUARE, START)
        one.put(1, 2)
        one.put(3, 2)
        one.undo()
        one.undo()
        for call, args in ((one.put, (0, 1)), (one.put, (1, 1)), (one.peg, (0,)), (one.unpeg, (0,)), (one.unpeg, (1,)),
                           (one.undo, ()), (one.peg, (9,))):
            with self.assertRaises(ValueError):
                call(*args)
        one.redo()
        one.redo()
        self.assertEqual(one.now(), (0, 2, 0, 2))
        self.refuses(NothingToRedo, 0, one.redo)

    def test_two_floors_of_one_opening(self):
        one, two = Floor(SQUARE, START), Floor(SQUARE, START)
        one.put(1, 2)
        one.peg(1)
        two.put(2, 2)
        self.assertEqual((one.now(), two.now()), ((0, 2, 0, 1), (0, 1, 2, 1)))
        self.assertEqual((one.record(), two.record()), ((("put", 1, 1, 2), ("peg", 1)), (("put", 2, 0, 2),)))
        self.assertEqual((one.world().pegs, two.world().pegs), ((0, 1), (0,)))
        one.undo()
        self.refuses(NothingToRedo, 0, two.redo)
        self.assertEqual(SQUARE.pegs, (0,))

    def test_300_deeds(self):
        one = Floor(SQUARE, START)
        for many in range(298):
            one.put(1, 2 - many % 2)
        one.peg(2)
        one.put(3, 2)
        self.assertEqual(len(one.record()), 300)
        self.refuses(TooMany, 301, one.put, 3, 1)
        self.refuses(TooMany, 301, one.peg, 1)
        self.refuses(TooMany, 301, one.unpeg, 2)
        # What is refused for itself is told first.
        self.refuses(BadPlace, 4, one.put, 4, 1)
        self.refuses(BadCoat, 2, one.put, 3, 2)
        self.refuses(Pegged, 2, one.peg, 2)
        self.refuses(BadPlace, -1, one.peg, -1)
        self.refuses(NotPegged, 1, one.unpeg, 1)
        self.refuses(Base, 0, one.unpeg, 0)
        self.assertEqual(len(one.record()), 300)
        one.undo()
        one.redo()
        self.assertEqual(len(one.record()), 300)
        one.undo()
        self.refuses(Pegged, 2, one.put, 2, 1)
        one.unpeg(2)
        self.refuses(TooMany, 301, one.peg, 2)
        self.refuses(NothingToRedo, 0, one.redo)
        for _ in range(300):
            one.undo()
        self.refuses(NothingToUndo, 0, one.undo)
        self.assertEqual((one.now(), one.record()), (START, ()))
        for _ in range(300):
            one.redo()
        self.refuses(TooMany, 301, one.put, 1, 2)

    def test_too_many_does_not_end_redoing(self):
        one = Floor(SQUARE, START)
        for many in range(300):
            one.put(1, 2 - many % 2)
        one.undo()
        one.undo()
        one.redo()
        one.redo()
        self.refuses(TooMany, 301, one.peg, 1)
        self.assertEqual(len(one.record()), 300)
        self.refuses(NothingToRedo, 0, one.redo)

    def test_24_places(self):
        world = made_world(unlike_coats(3), line_net(24), pegs=(0,))
        one = Floor(world, (0, 1) * 12)
        for place in range(23, 0, -1):
            roads = [coat for coat in range(3) if coat not in (one.now()[place - 1], one.now()[place])]
            one.put(place, roads[0])
            one.peg(place)
            if place > 1:
                one.unpeg(place)
                one.put(place, one.record()[-3][2])
        self.assertEqual(one.account()[0], len([row for row in one.record() if row[0] == "put"]))


class Errors(Case):

    def test_openings(self):
        free = made_world(unlike_coats(3), ring_net(4))
        self.refuses(NoPeg, 0, Floor, free, ())
        self.refuses(NoPeg, 0, Floor, free, START)
        self.refuses(BadSize, 0, Floor, SQUARE, ())
        self.refuses(BadSize, 5, Floor, SQUARE, (9,) * 5)
        self.refuses(BadStone, 3, Floor, SQUARE, (0, 1, 0, 0))
        self.refuses(BadStone, 0, Floor, SQUARE, (-1, 1, 0, 0))

    def unchanged(self, one, error, what, call, *args):
        before = (one.now(), one.world(), one.record(), one.trace(), one.account())
        self.refuses(error, what, call, *args)
        self.assertEqual((one.now(), one.world(), one.record(), one.trace(), one.account()), before)

    def test_put(self):
        one = Floor(SQUARE, START)
        for place in (-1, 4, 10 ** 20):
            self.unchanged(one, BadPlace, place, one.put, place, -9)
        self.unchanged(one, Pegged, 0, one.put, 0, -9)
        for coat in (0, 1, 3, -1, 10 ** 20):
            self.unchanged(one, BadCoat, coat, one.put, 1, coat)
        one.put(1, 2)
        self.unchanged(one, NotAmong, 2, one.put, 2, -9)
        self.unchanged(one, BadCoat, 2, one.put, 1, 2)
        one.peg(1)
        self.unchanged(one, Pegged, 1, one.put, 1, 1)
        one.unpeg(1)
        one.put(1, 1)
        lone = Floor(made_world(all_coats(2), line_net(1), pegs=(0,)), (1,))
        self.unchanged(lone, Pegged, 0, lone.put, 0, 0)

    def test_peg(self):
        one = Floor(SQUARE, START)
        for place in (-1, 4, 10 ** 20):
            self.unchanged(one, BadPlace, place, one.peg, place)
        self.unchanged(one, Pegged, 0, one.peg, 0)
        one.peg(3)
        self.unchanged(one, Pegged, 3, one.peg, 3)

    def test_unpeg(self):
        net = made_net(5, ((0, 1), (1, 2), (2, 3), (3, 4)))
        one = Floor(made_world(unlike_coats(3), net, pegs=(2, 4)), (0, 1, 0, 1, 0))
        for place in (-1, 5, 10 ** 20):
            self.unchanged(one, BadPlace, place, one.unpeg, place)
        for place in (0, 1, 3):
            self.unchanged(one, NotPegged, place, one.unpeg, place)
        self.unchanged(one, Base, 2, one.unpeg, 2)
        one.unpeg(4)
        self.unchanged(one, Base, 2, one.unpeg, 2)
        # The base of the opening's world stays, whatever the base is now.
        one.peg(0)
        self.assertEqual(one.world().base, 0)
        self.unchanged(one, Base, 2, one.unpeg, 2)
        one.unpeg(0)
        self.unchanged(one, NotPegged, 0, one.unpeg, 0)

    def test_undo_and_redo(self):
        one = Floor(SQUARE, START)
        self.unchanged(one, NothingToUndo, 0, one.undo)
        self.unchanged(one, NothingToRedo, 0, one.redo)
        one.peg(1)
        self.unchanged(one, NothingToRedo, 0, one.redo)
        one.undo()
        self.unchanged(one, NothingToUndo, 0, one.undo)
        one.redo()
        self.assertEqual(one.record(), (("peg", 1),))

    def test_the_class(self):
        methods = "put peg unpeg undo redo now world record trace away home account".split()
        self.assertLessEqual(set(methods), set(vars(Floor)))
        self.assertEqual(Floor.__module__, floor.__name__)
        self.assertIsInstance(Floor(SQUARE, START).world(), World)


if __name__ == "__main__":
    unittest.main()
