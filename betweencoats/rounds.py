"""Rounds: deeds that are done at once."""

from betweencoats.leastruns import lessening_steps
from betweencoats.same import checked_link


def rounds(world, a, b):
    """The fewest rounds from a to b, each of all deeds that lessen, or None."""
    rows = checked_link(world, a, b)
    if rows is None:
        return None
    return lessening_steps(world.net, rows, world.net.many)
