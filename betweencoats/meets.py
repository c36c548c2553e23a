"""Meetings of three standings."""

from betweencoats.forks import common_steps, fork_places
from betweencoats.same import right_link, two_links
from betweencoats.work import deeds_due


def stones_met(one, two):
    """The stones of the three meeting standings at a place with the rows one and two."""
    common = common_steps(one, two)
    if common % 2 == 0:
        return one[common], one[common], one[common]
    return one[common - 1], one[common + 1], two[common + 1]


def met(one, two):
    """The three meeting standings by the links from a to b and from a to c."""
    stones = [stones_met(row, two[place]) for place, row in enumerate(one)]
    return tuple([tuple([part[at] for part in stones]) for at in range(3)])


def meets(world, a, b, c):
    """The standings (a', b', c') at which a, b and c meet, or None."""
    found = two_links(world, a, b, c)
    if found is None:
        return None
    return met(found[0], found[1])


def gathering(world, a, b, c):
    """The least sum of deeds to one standing from all three, and how many standings have it; or None."""
    found = two_links(world, a, b, c)
    if found is None:
        return None
    nearest = met(found[0], found[1])[0]
    far = sum([sum(deeds_due(right_link(world, standing, nearest))) for standing in (a, b, c)])
    ways = 1
    for _ in fork_places(found[0], found[1]):
        ways *= 3
    return far, ways
