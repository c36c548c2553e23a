"""Worlds with more pegs, fewer pegs, or another table."""

from betweencoats.errors import NotPegged
from betweencoats.nets import check_place
from betweencoats.worlds import World


def with_pegs(world, places):
    """The world with pegs at some more places."""
    for place in places:
        check_place(world.net, place)
    return World(world.table, world.net, tuple(sorted(set(world.pegs + places))))


def without_peg(world, place):
    """The world with one peg less."""
    check_place(world.net, place)
    if place not in world.pegs:
        raise NotPegged(place)
    return World(world.table, world.net, tuple([peg for peg in world.pegs if peg != place]))


def with_table(world, table):
    """The world with another table."""
    return World(table, world.net, world.pegs)
