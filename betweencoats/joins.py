"""Rows joined where one ends and the other begins."""

from betweencoats.errors import BadJoin
from betweencoats.rests import check_row, struck


def run_on(one, two):
    """The rest of two rows of any length, one after the other; the stone that they share is taken once."""
    return struck(one + two[1:])


def joined(one, two):
    """The rest of the stones of one and then of two, where two begins with the last stone of one."""
    check_row(one)
    check_row(two)
    if one[-1] != two[0]:
        raise BadJoin((one[-1], two[0]))
    return run_on(one, two)
