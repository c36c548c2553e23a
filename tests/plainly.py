"""The document's words done the long way, to compare the package with, and what the tests share."""

import functools
import itertools
import unittest

from betweencoats.errors import Refused
from betweencoats.nets import made_net
from betweencoats.netshapes import grid_net, line_net, ring_net, star_net
from betweencoats.tables import made_table
from betweencoats.tableshapes import all_coats, line_coats, ring_coats, unlike_coats
from betweencoats.worlds import made_world


class Case(unittest.TestCase):
    """A test case that can ask for an error and for what it tells."""

    def refuses(self, error, what, call, *args, **named):
        with self.assertRaises(Refused) as caught:
            call(*args, **named)
        self.assertIs(type(caught.exception), error)
        self.assertEqual(caught.exception.what, what)
        self.assertIs(type(caught.exception.what), type(what))


# Loops at some coats, a coat of one road, a coat without roads.
MIXED = made_table(((0, 1), (0, 2), (1, 2, 3), (2,), ()))
# Two triangles that share place 2.
BOW = made_net(5, ((0, 1), (0, 2), (1, 2), (2, 3), (2, 4), (3, 4)))
# A ring of four with a tail, and with place numbers that do not follow the search.
KITE = made_net(5, ((0, 3), (1, 3), (1, 4), (2, 3), (2, 4)))
# Two ways from 0 to 5, of three threads and of two.
EYE = made_net(6, ((0, 1), (0, 4), (1, 2), (2, 5), (3, 4), (4, 5)))

ODD_THINGS = (
    None, "", "abc", "0101", 0, 7, -1, 10 ** 40, (), (None,), ("a", "b"), ((),), ((0, 1), (1, 2)),
    (0,), ((0,),), (((0, 1),),), (0, "1"), (None, 0, 1, 0), (0, (1,), 0, 1), ("0", "1", "0", "1"),
    ((0, 1, 2),), ((None, 1),), ((1, None),), (("a", 1),), ((0, 1), None), ((0, 1), 3), ((0, 1), "x"),
)


def nested(depth):
    """A tuple in a tuple in a tuple .."""
    thing = ()
    for _ in range(depth):
        thing = (thing,)
    return thing


def small_tables():
    return (all_coats(2), unlike_coats(3), line_coats(3), MIXED)


def small_nets():
    return (line_net(1), line_net(2), line_net(4), ring_net(3), ring_net(4), star_net(4), KITE, BOW)


def small_worlds(pegged_only=False):
    """Worlds in which all standings can be looked at."""
    for table in small_tables():
        for net in small_nets():
            last = net.many - 1
            for pegs in ((), (0,), (last,), tuple(sorted({0, last}))):
                if pegs or not pegged_only:
                    yield made_world(table, net, pegs=pegs)
    if not pegged_only:
        yield made_world(unlike_coats(3), ring_net(6))
    yield made_world(unlike_coats(3), ring_net(6), pegs=(2,))
    yield made_world(ring_coats(5), ring_net(5), pegs=(1,))
    yield made_world(unlike_coats(3), EYE, pegs=(3,))
    yield made_world(unlike_coats(3), grid_net(3, 2), pegs=(1, 2))


def straight_ring_worlds():
    """Rings that may be straight all round, with a peg on them or on a place that hangs at them."""
    for many in (3, 4, 5, 6):
        ring = ring_net(many)
        tail = made_net(many + 1, ring.threads + ((many - 1, many),))
        for table in (unlike_coats(3), ring_coats(many)):
            yield made_world(table, ring, pegs=(many // 2,))
            yield made_world(table, ring, pegs=(0, many - 1))
            yield made_world(table, tail, pegs=(many,))
    yield made_world(unlike_coats(4), ring_net(4), pegs=(1,))
    yield made_world(unlike_coats(3), BOW, pegs=(4,))


def standings(world):
    """All standings, by trying all tuples of coats."""
    roads = world.table.beside
    found = []
    for coats in itertools.product(range(world.table.many), repeat=world.net.many):
        if all(coats[y] in roads[coats[x]] for x, y in world.net.threads):
            found.append(coats)
    return found


def neighbours(net, place):
    return sorted([y for x, y in net.threads if x == place] + [x for x, y in net.threads if y == place])


def deeds(world, standing):
    """All deeds that are let, by trying all places and coats."""
    found = []
    for place in range(world.net.many):
        coats = {standing[other] for other in neighbours(world.net, place)}
        if place in world.pegs or len(coats) != 1:
            continue
        for coat in range(world.table.many):
            if coat in world.table.beside[min(coats)] and coat != standing[place]:
                found.append((place, coat))
    return found


def after(standing, deed):
    stones = list(standing)
    stones[deed[0]] = deed[1]
    return tuple(stones)


def shortest_runs(world, standing):
    """For each standing that comes of a standing a run there with as few deeds as possible."""
    runs = {standing: ()}
    layer = [standing]
    while layer:
        fresh = []
        for state in layer:
            for deed in deeds(world, state):
                other = after(state, deed)
                if other not in runs:
                    runs[other] = runs[state] + (deed,)
                    fresh.append(other)
        layer = fresh
    return runs


def rested(row, last=False):
    """The rest of a row, striking always the first or always the last three stones that can be struck."""
    row = list(row)
    while True:
        found = [at for at in range(len(row) - 2) if row[at] == row[at + 2]]
        if not found:
            return tuple(row)
        at = found[-1] if last else found[0]
        del row[at + 1:at + 3]


def frozen_places(world, a):
    """All places that are in any set of the kind that the document describes."""
    together = set()
    for size in range(world.net.many + 1):
        for places in itertools.combinations(range(world.net.many), size):
            if all(has_reason(world, a, places, place) for place in places):
                together.update(places)
    return tuple(sorted(together))


def has_reason(world, a, places, place):
    near = neighbours(world.net, place)
    coats = {a[other] for other in near if other in places}
    return place in world.pegs or not near or len(coats) > 1


def is_link(world, a, b, rows):
    """Whether rows, tuples of numbers, are a link, read along each thread both ways."""
    for place in range(world.net.many):
        row = rows[place]
        if len(row) % 2 != 1 or row[0] != a[place] or row[-1] != b[place] or rested(row) != row:
            return False
        if any(row[at + 1] not in world.table.beside[row[at]] for at in range(len(row) - 1)):
            return False
    for x, y in world.net.threads:
        for v, j in ((x, y), (y, x)):
            if rested((a[j],) + rows[v] + (b[j],)) != rows[j]:
                return False
    return True


def is_right(world, a, b, rows):
    """Whether rows are a link that is single at all pegs and frozen places."""
    still = set(world.pegs) | set(frozen_places(world, a))
    return is_link(world, a, b, rows) and all(len(rows[place]) == 1 for place in still)


def fewest(world, a):
    """For each standing that comes of a the fewest deeds to it."""
    return {b: len(run) for b, run in shortest_runs(world, a).items()}


def classes(world):
    """All standings of a world, class by class, each class ascending."""
    left = standings(world)
    found = []
    while left:
        found.append(sorted(shortest_runs(world, left[0])))
        left = sorted(set(left) - set(found[-1]))
    return found


def counted(world, run):
    """For each place how many deeds of a run are at it."""
    return tuple(sum(deed[0] == place for deed in run) for place in range(world.net.many))


def table_rows(table, many):
    """All rows of a table with so many stones, ascending."""
    found = [(coat,) for coat in range(table.many)]
    for _ in range(many - 1):
        found = [row + (coat,) for row in found for coat in table.beside[row[-1]]]
    return sorted(found)


def away(net, x):
    """For each place the fewest threads of a walk from x to it."""
    far, steps = {x: 0}, 0
    while len(far) < net.many:
        steps += 1
        for place in [other for known in far for other in neighbours(net, known)]:
            far.setdefault(place, steps)
    return tuple(far[place] for place in range(net.many))


def straight_rows(table, many):
    """All straight rows of a table with so many stones."""
    found = [(coat,) for coat in range(table.many)]
    for _ in range(many - 1):
        longer = [row + (coat,) for row in found for coat in table.beside[row[-1]]]
        found = [row for row in longer if row[-3:-2] != row[-1:]]
    return found


# Tables, and how many stones rings of them may have so that all rings can be looked at.
RING_CASES = (
    (unlike_coats(3), 10), (all_coats(2), 10), (MIXED, 7), (unlike_coats(4), 6), (ring_coats(4), 8), (all_coats(3), 6),
    (ring_coats(5), 8), (line_coats(3), 8), (unlike_coats(2), 6), (made_table(((0,),)), 6), (made_table(((),)), 4),
    (made_table(((0, 1), (0,))), 8), (made_table(((1, 2), (0, 1), (0,))), 7), (made_table(((1,), (0,), (2, 3), (2,))), 7),
    (made_table(((1,), (0, 2), (1, 3, 4), (2, 4), (2, 3))), 7),
)


@functools.lru_cache(maxsize=None)
def listed_ring_classes(beside, n):
    """All classes of the rings of n stones."""
    return classes(made_world(made_table(beside), ring_net(n)))


def ring_cases():
    """All (table, n, classes of the rings of n stones) that can be looked at."""
    for table, most in RING_CASES:
        for n in range(3, most + 1):
            yield table, n, listed_ring_classes(table.beside, n)
