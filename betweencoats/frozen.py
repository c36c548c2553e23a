"""Frozen places: those that no run changes, because they hold one another."""

from betweencoats.standings import check_standing


def is_held(world, a, kept, place):
    """Whether a place is a peg, has no neighbour, or has two kept neighbours of different coats."""
    near = world.net.near[place]
    if place in world.pegs or len(near) == 0:
        return True
    coats = [a[other] for other in near if kept[other]]
    return len(coats) > 0 and min(coats) != max(coats)


def frozen_places(world, a):
    """The frozen places of a standing that was checked, ascending."""
    kept = [True] * world.net.many
    again = True
    while again:
        again = False
        for place in range(world.net.many):
            if kept[place] and not is_held(world, a, kept, place):
                kept[place] = False
                again = True
    return tuple([place for place in range(world.net.many) if kept[place]])


def frozen(world, a):
    """The greatest set of places that hold one another, ascending."""
    check_standing(world, a)
    return frozen_places(world, a)
