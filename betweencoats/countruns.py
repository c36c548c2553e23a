"""How many least runs there are, and how many standings they meet."""

from betweencoats.errors import TooMany
from betweencoats.leastruns import lessened, lessening_deeds
from betweencoats.same import checked_link
from betweencoats.work import deeds_due

MOST_DEEDS = 12


def next_layer(net, layer):
    """What is left of the link after one more deed, with how many runs come to it."""
    fresh = {}
    for rows, many in layer.items():
        for place, _ in lessening_deeds(net, rows):
            left = lessened(rows, (place,))
            fresh[left] = fresh.get(left, 0) + many
    return fresh


def layers(world, a, b):
    """For each number of deeds the links that may be left, with how many runs come to them; None if b does not come.

    A link that is left stands for the standing of its first stones: there is but one link from it to b.
    """
    rows = checked_link(world, a, b)
    if rows is None:
        return None
    many = sum(deeds_due(rows))
    if many > MOST_DEEDS:
        raise TooMany(many)
    found = [{rows: 1}]
    for _ in range(many):
        found.append(next_layer(world.net, found[-1]))
    return found


def least_runs(world, a, b):
    """How many runs lead from a to b with the least number of deeds, or None."""
    found = layers(world, a, b)
    if found is None:
        return None
    return sum(found[-1].values())


def between_many(world, a, b):
    """How many standings are between a and b, both with them, or None."""
    found = layers(world, a, b)
    if found is None:
        return None
    return sum([len(layer) for layer in found])
