"""Worlds: a table, a net and pegs."""

from betweencoats.errors import BadPegs, NoPeg, Pegged
from betweencoats.kinds import climb_fault


class World:
    """A world; its `base` is the least peg, or 0 without pegs."""

    def __init__(self, table, net, pegs):
        self.table = table
        self.net = net
        self.pegs = pegs
        self.base = pegs[0] if len(pegs) > 0 else 0

    def __eq__(self, other):
        return (
            isinstance(other, World) and self.table == other.table
            and self.net == other.net and self.pegs == other.pegs
        )


def made_world(table, net, *, pegs=()):
    """The world of a table and a net with pegs at ascending places."""
    fault = climb_fault(pegs, net.many)
    if fault is not None:
        raise BadPegs(fault)
    return World(table, net, pegs)


def check_pegged(world):
    """Refuse a world without pegs."""
    if len(world.pegs) == 0:
        raise NoPeg(0)


def check_free(world):
    """Refuse a world with pegs."""
    if len(world.pegs) > 0:
        raise Pegged(world.pegs[0])
