"""Gaps: how far the ends of two rows are from one another."""

from betweencoats.errors import BadJoin
from betweencoats.joins import run_on
from betweencoats.rests import check_row


def gap_of(one, two):
    """The gap of two rows of any length with the same first stone."""
    return len(run_on(one[::-1], two)) - 1


def gap(one, two):
    """The steps from the end of one row back to the first stone, which both share, and on to the end of the other."""
    check_row(one)
    check_row(two)
    if one[0] != two[0]:
        raise BadJoin((one[0], two[0]))
    return gap_of(one, two)
