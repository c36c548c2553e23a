"""Classes: the standings that come of one another."""

from betweencoats.errors import TooMany
from betweencoats.lets import changed, let_deeds
from betweencoats.standings import check_standing

MOST_STANDINGS = 4096


def class_of(world, standing):
    """All standings that come of a standing, itself with them, ascending."""
    check_standing(world, standing)
    seen = set()
    seen.add(standing)
    waiting = [standing]
    while len(waiting) > 0:
        state = waiting.pop()
        for place, coat in let_deeds(world, state):
            other = changed(state, place, coat)
            if other not in seen:
                seen.add(other)
                waiting.append(other)
        if len(seen) > MOST_STANDINGS:
            raise TooMany(MOST_STANDINGS)
    return tuple(sorted(seen))
