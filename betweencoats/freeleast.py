"""The least number of deeds between standings of a world without pegs."""

from betweencoats.freelinks import free_link
from betweencoats.work import deeds_due


def free_least(world, a, b):
    """The least number of deeds that lead from a to b, or None."""
    rows = free_link(world, a, b)
    if rows is None:
        return None
    return sum(deeds_due(rows))
