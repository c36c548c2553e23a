"""Runs: deeds done one after the other."""

from betweencoats.errors import BadDeed, BadSize
from betweencoats.kinds import is_pair
from betweencoats.lets import changed, is_let
from betweencoats.standings import check_standing, is_standing

MOST_DEEDS = 600


def states_while_let(world, standing, run):
    """The standings on the way, up to the first deed that is not let where it stands."""
    states = [standing]
    for place, coat in run:
        if not is_let(world, states[-1], place, coat):
            break
        states.append(changed(states[-1], place, coat))
    return states


def checked_states(world, standing, run):
    """All standings on the way; refuses a bad standing, then a bad run."""
    check_standing(world, standing)
    if len(run) > MOST_DEEDS:
        raise BadSize(len(run))
    states = states_while_let(world, standing, run)
    if len(states) <= len(run):
        raise BadDeed(len(states) - 1)
    return states


def run_end(world, standing, run):
    """The standing at the end of a run."""
    return checked_states(world, standing, run)[-1]


def states_of(world, standing, run):
    """All standings on the way of a run, the first and the last one with them."""
    return tuple(checked_states(world, standing, run))


def run_back(world, standing, run):
    """The run that leads from the end of a run to its beginning."""
    states = checked_states(world, standing, run)
    deeds = [(deed[0], states[at][deed[0]]) for at, deed in enumerate(run)]
    return tuple(deeds[::-1])


def run_right(world, a, b, run):
    """Whether a and b are standings and run is a run that leads from a to b; all three may be any values."""
    if not is_standing(world, a) or not is_standing(world, b):
        return False
    if not isinstance(run, tuple) or len(run) > MOST_DEEDS or not all([is_pair(deed) for deed in run]):
        return False
    states = states_while_let(world, a, run)
    return len(states) == len(run) + 1 and states[-1] == b
