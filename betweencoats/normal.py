"""Normal rows, and runs that lead to them with both ends of the row pegged."""

from betweencoats.errors import BadSize
from betweencoats.nets import MOST_PLACES
from betweencoats.rests import bends, struck
from betweencoats.tables import check_table_row


def normal(table, row):
    """The rest of a row, filled up to its length with its last stone and the least coat beside that."""
    check_table_row(table, row)
    left = struck(row)
    end = left[-1]
    return left + (table.beside[end][:1] + (end,)) * ((len(row) - len(left)) // 2)


def handed(table, stones, turn, end):
    """The deeds that hand the turn on to the stone before the end, those that change nothing left out."""
    now = list(stones)
    deeds = []
    for place in range(turn, end):
        coat = now[place + 2] if place + 2 <= end else table.beside[now[end]][0]
        if now[place] != coat:
            now[place] = coat
            deeds.append((place, coat))
    return deeds


def hand_run(table, row):
    """The run from a row to its normal row that hands one turn after the other on to the end."""
    check_table_row(table, row)
    if len(row) > MOST_PLACES:
        raise BadSize(len(row))
    run = []
    part = list(row)
    found = bends(part)
    while len(found) > 0:
        deeds = handed(table, part, found[0], len(part) - 1)
        for place, coat in deeds:
            part[place] = coat
        run = run + deeds
        part = part[:-2]
        found = bends(part)
    return tuple(run)
