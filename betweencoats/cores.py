"""Cores of rows that end as they begin."""

from betweencoats.errors import BadJoin
from betweencoats.rests import check_row, struck


def tail_and_core(row):
    """The tail and the core of a row of any length that ends as it begins."""
    left = struck(row)
    tail = [left[0]]
    while len(left) > 2 and left[1] == left[-2]:
        left = left[1:-1]
        tail.append(left[0])
    return tuple(tail), left


def core(row):
    """The pair (tail, core) of a row: its rest is the tail, the core and the tail back, joined."""
    check_row(row)
    if row[0] != row[-1]:
        raise BadJoin((row[0], row[-1]))
    return tail_and_core(row)
