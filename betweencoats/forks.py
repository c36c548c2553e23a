"""Forks: places at which the ways to two standings part in the middle of a deed."""

from betweencoats.same import two_links


def common_steps(one, two):
    """The steps of the longest common beginning of two rows with the same first stone."""
    stones = 0
    for p, q in zip(one, two):
        if p != q:
            break
        stones += 1
    return stones - 1


def fork_places(one, two):
    """The places at which two links have an odd number of common steps, ascending."""
    return tuple([place for place, row in enumerate(one) if common_steps(row, two[place]) % 2 == 1])


def forks(world, a, b, c):
    """The forks of three standings, ascending, or None."""
    found = two_links(world, a, b, c)
    if found is None:
        return None
    return fork_places(found[0], found[1])
