"""Traces of runs: for each place the row of what it and its neighbours were."""

from betweencoats.lets import changed, coat_around
from betweencoats.rests import struck
from betweencoats.runs import checked_states


def traced(net, standing, run):
    """The rows of the places after a run, and by how many steps each deed made them longer; no peg is asked for."""
    rows = [(coat,) for coat in standing]
    longer = []
    state = standing
    for place, coat in run:
        row = struck(rows[place] + (coat_around(net, state, place), coat))
        longer.append(len(row) - len(rows[place]))
        rows[place] = row
        state = changed(state, place, coat)
    return tuple(rows), longer


def trace(world, standing, run):
    """The rows of the places after a run: each deed puts the neighbours' coat and the new coat at the end."""
    checked_states(world, standing, run)
    return traced(world.net, standing, run)[0]
