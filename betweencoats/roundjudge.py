"""The judge of rounds."""

from betweencoats.kinds import is_pair
from betweencoats.lets import is_let
from betweencoats.standings import is_standing


def are_apart(net, deeds):
    """Whether the places of some deeds are strictly ascending and no two of them threaded."""
    places = [place for place, _ in deeds]
    for at in range(1, len(places)):
        if places[at - 1] >= places[at]:
            return False
    return not any([other in places for place in places for other in net.near[place]])


def is_round(world, state, thing):
    """Whether any value is a round that may be done at a standing."""
    if not isinstance(thing, tuple) or len(thing) == 0 or not all([is_pair(deed) for deed in thing]):
        return False
    # A place that is let is a place of the net, so the neighbours of all of them can be asked for.
    if not all([is_let(world, state, place, coat) for place, coat in thing]):
        return False
    return are_apart(world.net, thing)


def after_round(state, deeds):
    """The standing after a round."""
    stones = list(state)
    for place, coat in deeds:
        stones[place] = coat
    return tuple(stones)


def rounds_right(world, a, b, rounds):
    """Whether a and b are standings and rounds lead from a to b; all three may be any values."""
    if not is_standing(world, a) or not is_standing(world, b) or not isinstance(rounds, tuple):
        return False
    state = a
    for thing in rounds:
        if not is_round(world, state, thing):
            return False
        state = after_round(state, thing)
    return state == b
