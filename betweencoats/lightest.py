"""The lightest row with a given rest."""

from betweencoats.rowcounts import check_steps, check_straight_row
from betweencoats.weighed import check_weights, rows_summed

MOST_STEPS = 12
HIGHEST = 99


def lighter(ways):
    """The least of some pairs (weight, stones), or None; None among them stands for no way."""
    return min([way for way in ways if way is not None], default=None)


def followed(one, two):
    """The pair (weight, stones) of two, one after the other; None if one of them is None."""
    if one is None or two is None:
        return None
    return one[0] + two[0], one[1] + two[1]


def lightest(table, W, L, weights):
    """The least weight of a row of L steps with the rest W, and the least row that has it; None without rows."""
    check_straight_row(table, W)
    check_steps(L, MOST_STEPS)
    check_weights(table, L, weights, HIGHEST)
    stones = [[(number, (coat,)) for coat, number in enumerate(row)] for row in weights]
    return rows_summed(table, W, stones, lighter, followed, (0, ()))
