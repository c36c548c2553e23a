"""What a place may show: its coats in all standings that come of a flat one."""

from betweencoats.apart import apart
from betweencoats.errors import NotFlat
from betweencoats.gaps import gap_of
from betweencoats.lifts import closes, lift_rows
from betweencoats.nets import check_place
from betweencoats.rowcounts import end_counts
from betweencoats.standings import check_standing
from betweencoats.worlds import check_pegged


def beginnings(rows):
    """All beginnings of some rows with at least one stone, each once."""
    found = {}
    for row in rows:
        for many in range(1, len(row) + 1):
            found[row[:many]] = True
    return list(found)


def coats_shown(world, a, place):
    """For each coat whether a place shows it, in a world with pegs and a flat standing."""
    rows = lift_rows(world, a)
    far = apart(world.net, place)
    shows = [False] * world.table.many
    for row in beginnings([rows[peg] for peg in world.pegs]):
        slack = min([far[peg] - gap_of(row, rows[peg]) for peg in world.pegs])
        if slack >= 0:
            counts = end_counts(world.table, row[-1], slack)
            shows = [shows[coat] or many > 0 for coat, many in enumerate(counts)]
    return shows


def shown(world, a, place):
    """The coats that a place has in the standings that come of a flat one, ascending."""
    check_pegged(world)
    check_standing(world, a)
    check_place(world.net, place)
    if not closes(world, a):
        raise NotFlat(0)
    return tuple([coat for coat, shows in enumerate(coats_shown(world, a, place)) if shows])
