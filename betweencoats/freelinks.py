"""Whether a standing comes of another one in a world without pegs, and by which link."""

from betweencoats.bestlinks import best_of
from betweencoats.cores import along, tail_and_core
from betweencoats.errors import Null
from betweencoats.evenlots import same_lot
from betweencoats.frozen import frozen_places
from betweencoats.gaps import gap_of
from betweencoats.joins import run_on
from betweencoats.lifts import closes, closing_rows, lift_rows
from betweencoats.links import link_of
from betweencoats.ringleast import least_links_round, links_round
from betweencoats.standings import check_standing
from betweencoats.worlds import check_free


def check_free_standings(world, a, b):
    """Refuse a world with pegs, then what is no standing."""
    check_free(world)
    check_standing(world, a)
    check_standing(world, b)


def is_null(world, a):
    """Whether no place is frozen and no closing row has steps, so that nothing holds a standing fast."""
    return len(frozen_places(world, a)) == 0 and closes(world, a)


def null_come(world, a, b):
    """Whether b comes of a standing that nothing holds fast."""
    return closes(world, b) and same_lot(world.table, a[0], b[0])


def frozen_links(world, a, b, still):
    """The right link from a to b, at most one, if some places are frozen."""
    held = still[0]
    if a[held] != b[held]:
        return []
    first = run_on(lift_rows(world, a)[held], lift_rows(world, b)[held][::-1])
    rows = link_of(world, a, b, first)
    if rows is None or any([len(rows[place]) > 1 for place in still]):
        return []
    return [rows]


def steps_about(row, way):
    """The steps of the rest of a way back, a row from its first stone and to it, and the way."""
    return gap_of(way, run_on(row, way))


def turns_to(row, one, goal, step):
    """The turns j = 0, step, 2 * step .. round the core of one after which a row has goal steps about the way there."""
    found = []
    j = 0
    steps = steps_about(row, one[0])
    rising = False
    # The steps fall, stay and rise for ever, so behind a rise above the goal there is nothing more.
    while steps <= goal or not rising:
        if steps == goal:
            found.append(j)
        j += step
        last = steps
        steps = steps_about(row, along(one[0], one[1], j))
        rising = steps > last
    return found


def wound_links(world, a, b):
    """Right links from a to b, the best one among them, if no place is frozen and some closing row of a has steps."""
    ours = closing_rows(world, a)
    theirs = closing_rows(world, b)
    first = [len(row) > 1 for row in ours].index(True)
    one = tail_and_core(ours[first])
    two = tail_and_core(theirs[first])
    if len(one[1]) != len(two[1]):
        return []
    strange = [f for f, row in enumerate(ours) if run_on(ours[first], row) != run_on(row, ours[first])]
    if len(one[1]) == 2 or len(strange) == 0:
        return least_links_round(world, a, b, one, two)
    f = strange[0]
    goal = steps_about(theirs[f], two[0])
    turns = turns_to(ours[f], one, goal, 1) + turns_to(ours[f], one, goal, -1)
    return links_round(world, a, b, one, two, turns)


def held_link(world, a, b):
    """The best right link from a to b if something holds a fast, or None."""
    still = frozen_places(world, a)
    links = frozen_links(world, a, b, still) if len(still) > 0 else wound_links(world, a, b)
    return best_of(links, 0)


def free_come(world, a, b):
    """Whether b comes of a, in a world without pegs."""
    check_free_standings(world, a, b)
    if is_null(world, a):
        return null_come(world, a, b)
    return held_link(world, a, b) is not None


def free_link(world, a, b):
    """The right link from a to b with the least sum of steps, in a world without pegs, or None."""
    check_free_standings(world, a, b)
    if a == b:
        return tuple([(coat,) for coat in a])
    if not is_null(world, a):
        return held_link(world, a, b)
    if null_come(world, a, b):
        raise Null(0)
    return None
