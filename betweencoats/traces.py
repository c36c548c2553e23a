"""Traces of runs: for each place the row of what it and its neighbours were."""

from betweencoats.lets import coat_around
from betweencoats.rests import struck
from betweencoats.runs import checked_states


def trace(world, standing, run):
    """The rows of the places after a run: each deed puts the neighbours' coat and the new coat at the end."""
    states = checked_states(world, standing, run)
    rows = [(coat,) for coat in standing]
    for at, (place, coat) in enumerate(run):
        around = coat_around(world.net, states[at], place)
        rows[place] = struck(rows[place] + (around, coat))
    return tuple(rows)
