"""Cores of rows that end as they begin."""

from betweencoats.errors import BadJoin
from betweencoats.rests import check_row, struck


def tail_and_core(row):
    """The tail and the core of a row of any length that ends as it begins."""
    left = struck(row)
    tail = [left[0]]
    while len(left) > 2 and left[1] == left[-2]:
        left = left[1:-1]
        tail.append(left[0])
    return tuple(tail), left


def reading(middle, j):
    """The stones of a core from its step j on, once round."""
    many = len(middle) - 1
    return tuple([middle[(j + at) % many] for at in range(many)])


def along(tail, middle, j):
    """A tail and then j steps round and round its core, backwards if j is below 0."""
    many = len(middle) - 1
    way = 1 if j > 0 else -1
    return tail + tuple([middle[way * at % many] for at in range(1, abs(j) + 1)])


def core(row):
    """The pair (tail, core) of a row: its rest is the tail, the core and the tail back, joined."""
    check_row(row)
    if row[0] != row[-1]:
        raise BadJoin((row[0], row[-1]))
    return tail_and_core(row)
