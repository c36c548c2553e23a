"""Whether a standing comes of another one, in a world with pegs."""

from betweencoats.frozen import frozen_places
from betweencoats.links import base_link
from betweencoats.standings import check_standing
from betweencoats.worlds import check_pegged


def check_standings(world, standings):
    """Refuse a world without pegs, then the first tuple of several that is no standing."""
    check_pegged(world)
    for standing in standings:
        check_standing(world, standing)


def held_back(world, a, rows):
    """The frozen places of a, pegs among them, at which a link from a has steps, ascending."""
    return tuple([place for place in frozen_places(world, a) if len(rows[place]) > 1])


def right_link(world, a, b):
    """The link from a to b, standings that were checked, or None if b does not come of a."""
    rows = base_link(world, a, b)
    if rows is None or held_back(world, a, rows) != ():
        return None
    return rows


def checked_link(world, a, b):
    """The link from a to b, or None if b does not come of a; refuses what is bad."""
    check_standings(world, (a, b))
    return right_link(world, a, b)


def two_links(world, a, b, c):
    """The links from a to b and from a to c, or None if one of these does not come of a; refuses what is bad."""
    check_standings(world, (a, b, c))
    one = right_link(world, a, b)
    two = right_link(world, a, c)
    if one is None or two is None:
        return None
    return one, two


def come(world, a, b):
    """Whether b comes of a."""
    return checked_link(world, a, b) is not None
