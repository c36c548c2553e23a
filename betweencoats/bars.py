"""Bars: the places that keep a standing from coming of another one; and quiet places, which need no deed."""

from betweencoats.links import base_link
from betweencoats.same import check_standings, checked_link, held_back


def bars(world, a, b):
    """The pegs and frozen places at which the link from a to b has steps, ascending; None without a link."""
    check_standings(world, (a, b))
    rows = base_link(world, a, b)
    if rows is None:
        return None
    return held_back(world, a, rows)


def quiet(world, a, b):
    """The places at which the link from a to b has no steps, ascending; None if b does not come of a."""
    rows = checked_link(world, a, b)
    if rows is None:
        return None
    return tuple([place for place, row in enumerate(rows) if len(row) == 1])
