"""Never papers: what shows that a standing does not come of another one."""

from betweencoats.frozen import frozen_places
from betweencoats.lifts import closing_rows, spare_threads
from betweencoats.links import base_link
from betweencoats.nets import come_to
from betweencoats.same import checked_link, held_back


def way_to(world, place):
    """The places from the base to a place, along uppers."""
    found = come_to(world.net, world.base)
    way = (place,)
    while way[0] != world.base:
        way = (found[way[0]],) + way
    return way


def parting_threads(world, a, b):
    """The spare threads at which the closing rows of a and b differ, in order."""
    ours = closing_rows(world, a)
    theirs = closing_rows(world, b)
    return [thread for at, thread in enumerate(spare_threads(world)) if ours[at] != theirs[at]]


def never_paper(world, a, b):
    """A right never paper for a and b, or None if b comes of a."""
    if checked_link(world, a, b) is not None:
        return None
    if a[world.base] != b[world.base]:
        return "stand", (world.base,), (world.base,)
    threads = parting_threads(world, a, b)
    if len(threads) > 0:
        x, y = threads[0]
        return "round", way_to(world, x) + way_to(world, y)[::-1]
    # The closing rows are alike, so there is a link.
    barred = held_back(world, a, base_link(world, a, b))
    return "stand", frozen_places(world, a), way_to(world, barred[0])
