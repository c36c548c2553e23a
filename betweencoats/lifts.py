"""Lifts: for each place the row that leads to it from the base."""

from betweencoats.nets import come_to
from betweencoats.rests import struck
from betweencoats.standings import check_standing
from betweencoats.worlds import check_pegged


def lift_rows(world, a):
    """The lifts of a standing that was checked; the world may be free."""
    found = come_to(world.net, world.base)
    rows = {-1: ()}
    for place, upper in found.items():
        rows[place] = struck(rows[upper] + (a[place],))
    return tuple([rows[place] for place in range(world.net.many)])


def spare_threads(world):
    """The threads that lead to no place from its upper, in order."""
    found = come_to(world.net, world.base)
    return [(x, y) for x, y in world.net.threads if found[x] != y and found[y] != x]


def closing_rows(world, a):
    """For each spare thread the row from the base round by it and back."""
    rows = lift_rows(world, a)
    return tuple([struck(rows[x] + (a[y],) + rows[y][::-1][1:]) for x, y in spare_threads(world)])


def closes(world, a):
    """Whether all closing rows of a standing that was checked are single."""
    return all([len(row) == 1 for row in closing_rows(world, a)])


def lifts(world, a):
    """For each place a straight row from the coat at the base to the coat at the place."""
    check_pegged(world)
    check_standing(world, a)
    return lift_rows(world, a)


def is_flat(world, a):
    """Whether all closing rows of a standing are single."""
    check_pegged(world)
    check_standing(world, a)
    return closes(world, a)
