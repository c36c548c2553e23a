"""Runs with as few deeds as possible."""

from betweencoats.same import checked_link


def lessening_deeds(net, rows):
    """The deeds that are let and take two stones off a row of a right link, ascending."""
    # The first stones of the rows are the standing as it is. A row with steps is at no peg, and has neighbours.
    deeds = []
    for place, row in enumerate(rows):
        if len(row) > 1 and all([rows[other][0] == row[1] for other in net.near[place]]):
            deeds.append((place, row[2]))
    return deeds


def lessened(rows, places):
    """The link that is left when its next deeds at some places are done."""
    return tuple([row[2:] if place in places else row for place, row in enumerate(rows)])


def lessening_steps(net, rows, most):
    """The way along a right link to its end, if at each step the first lessening deeds, at most so many, are done."""
    steps = []
    deeds = lessening_deeds(net, rows)
    while len(deeds) > 0:
        steps.append(tuple(deeds[:most]))
        rows = lessened(rows, [place for place, _ in steps[-1]])
        deeds = lessening_deeds(net, rows)
    return tuple(steps)


def lessening(world, a, b):
    """The deeds that are let at a and with which a least run to b can begin, ascending, or None."""
    rows = checked_link(world, a, b)
    if rows is None:
        return None
    return tuple(lessening_deeds(world.net, rows))


def least_run(world, a, b):
    """The run from a to b that does the lessening deed at the least place at each step, or None."""
    rows = checked_link(world, a, b)
    if rows is None:
        return None
    return tuple([deeds[0] for deeds in lessening_steps(world.net, rows, 1)])
