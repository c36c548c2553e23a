"""Links: rows at all places that fit together and lead from one standing to another."""

from betweencoats.errors import BadFirst
from betweencoats.nets import come_to
from betweencoats.rests import bends, struck
from betweencoats.standings import check_standing
from betweencoats.tables import row_fault
from betweencoats.worlds import check_pegged

MOST_FIRST_STEPS = 46


def is_link_row(table, row, start, end):
    """Whether a tuple of numbers is a straight row of the table, of even steps, from start to end."""
    # An even number of stones is an odd number of steps; () has no stones and falls out here, too.
    if len(row) % 2 == 0 or row[0] != start or row[-1] != end:
        return False
    return row_fault(table, row) is None and bends(row) == ()


def carried(a, b, row, place):
    """The row at a place that follows from the row at a neighbour."""
    return struck((a[place],) + row + (b[place],))


def rows_fit(net, a, b, rows):
    """Whether the rows at all places fit along each thread."""
    return all([rows[y] == carried(a, b, rows[x], y) for x, y in net.threads])


def link_of(world, a, b, first):
    """The link whose row at the base is first, or None; first may have any length."""
    found = come_to(world.net, world.base)
    rows = {}
    for place, upper in found.items():
        rows[place] = first if place == world.base else carried(a, b, rows[upper], place)
    if not rows_fit(world.net, a, b, rows):
        return None
    return tuple([rows[place] for place in range(world.net.many)])


def linked_from(world, a, b, first):
    """The link from a to b whose row at the base is first, or None if its rows do not fit."""
    check_standing(world, a)
    check_standing(world, b)
    if len(first) > MOST_FIRST_STEPS + 1 or not is_link_row(world.table, first, a[world.base], b[world.base]):
        raise BadFirst(0)
    return link_of(world, a, b, first)


def base_link(world, a, b):
    """The link from a to b, standings that were checked, whose row at the base is single, or None."""
    if a[world.base] != b[world.base]:
        return None
    return link_of(world, a, b, (a[world.base],))


def link(world, a, b):
    """The link from a to b whose row at the base is single, or None."""
    check_pegged(world)
    check_standing(world, a)
    check_standing(world, b)
    return base_link(world, a, b)
