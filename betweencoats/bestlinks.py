"""The best link: the right one with the least sum of steps, among those with few steps at the base."""

from betweencoats.errors import BadCount
from betweencoats.frozen import frozen_places
from betweencoats.links import link_of
from betweencoats.standings import check_standing

MOST_BASE_STEPS = 4


def even_rows(table, start, end, most):
    """All straight rows of an even number of steps, at most so many, from start to end."""
    rows = [(start,)]
    found = [row for row in rows if row[-1] == end]
    for steps in range(1, most + 1):
        rows = [row + (coat,) for row in rows for coat in table.beside[row[-1]] if row[-2:-1] != (coat,)]
        if steps % 2 == 0:
            found = found + [row for row in rows if row[-1] == end]
    return found


def best_of(links, base):
    """The link with the least sum of steps, then with fewer steps at the base, then with the lesser row there."""
    found = [(sum([len(row) for row in rows]), len(rows[base]), rows[base], rows) for rows in links]
    if len(found) == 0:
        return None
    return min(found)[-1]


def best_link(world, a, b, *, most=4):
    """The best of all right links from a to b with at most so many steps at the base, or None."""
    check_standing(world, a)
    check_standing(world, b)
    if not 0 <= most <= MOST_BASE_STEPS:
        raise BadCount(most)
    still = frozen_places(world, a)
    firsts = even_rows(world.table, a[world.base], b[world.base], most)
    links = [link_of(world, a, b, first) for first in firsts]
    right = [rows for rows in links if rows is not None and all([len(rows[place]) == 1 for place in still])]
    return best_of(right, world.base)
