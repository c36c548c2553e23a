"""The judge of links."""

from betweencoats.frozen import frozen_places
from betweencoats.kinds import are_numbers
from betweencoats.links import is_link_row, rows_fit
from betweencoats.standings import is_standing


def link_right(world, a, b, rows):
    """Whether a and b are standings and rows is a right link from a to b; all three may be any values."""
    if not is_standing(world, a) or not is_standing(world, b):
        return False
    if not isinstance(rows, tuple) or len(rows) != world.net.many:
        return False
    for place, row in enumerate(rows):
        if not are_numbers(row) or not is_link_row(world.table, row, a[place], b[place]):
            return False
    # Each peg is a frozen place.
    if not all([len(rows[place]) == 1 for place in frozen_places(world, a)]):
        return False
    return rows_fit(world.net, a, b, rows)
