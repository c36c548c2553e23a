"""Covers: maps that send the roads of each coat one-to-one onto all roads of its image."""

from betweencoats.errors import BadFirst, BadMap
from betweencoats.nets import come_to
from betweencoats.standings import check_standing, is_standing
from betweencoats.tablemaps import image, is_map
from betweencoats.worlds import World


def is_cover(table, other, coats):
    """Whether any value is a cover from table to other."""
    if not is_map(table, other, coats):
        return False
    return all([
        tuple(sorted(image(table.beside[coat], coats))) == other.beside[coats[coat]] for coat in range(table.many)
    ])


def road_over(table, coats, coat, goal):
    """The road of a coat that a cover sends to a goal, which is a road of the coat's image."""
    return [road for road in table.beside[coat] if coats[road] == goal][0]


def over(table, other, coats, net, standing, first):
    """The standing of table with the coat first at place 0 whose image is a standing of other, or None."""
    if not is_cover(table, other, coats):
        raise BadMap(0)
    check_standing(World(other, net, ()), standing)
    if not 0 <= first < table.many or coats[first] != standing[0]:
        raise BadFirst(first)
    found = {}
    for place, upper in come_to(net, 0).items():
        found[place] = first if place == 0 else road_over(table, coats, found[upper], standing[place])
    stones = tuple([found[place] for place in range(net.many)])
    if not is_standing(World(table, net, ()), stones):
        return None
    return stones
