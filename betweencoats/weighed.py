"""Rows with weights, summed over all rows with a given rest."""

from betweencoats.errors import BadWeights
from betweencoats.rowcounts import check_steps, check_straight_row

MOST_STEPS = 24
NO_COAT = -1


def check_weights(table, L, weights, highest):
    """Refuse weights that are not a row for each place, with a number from 0 to the highest for each coat."""
    if len(weights) != L + 1:
        raise BadWeights(L + 1)
    for at, row in enumerate(weights):
        if len(row) != table.many or not all([0 <= number <= highest for number in row]):
            raise BadWeights(at)


def closed_sums(table, stones, plus, times, unit):
    """By (i, j, p, s) the sum over all ways to fill the places from i to j, from s to s with the rest (s,).

    None of their beginnings has the rest (s, p); p may be NO_COAT, then they are all. The stone at i is left out.
    """
    threads = [(p, s) for s in range(table.many) for p in (NO_COAT,) + table.beside[s]]
    closed = {(i, i, p, s): unit for i in range(len(stones)) for p, s in threads}
    # By (i, j, p, s) those that come back to the rest (s,) at j for the first time.
    once = {}
    for steps in range(2, len(stones), 2):
        for j in range(steps, len(stones)):
            i = j - steps
            for p, s in threads:
                roads = [r for r in table.beside[s] if r != p]
                out = [times(stones[i + 1][r], closed[(i + 1, j - 1, s, r)]) for r in roads]
                once[(i, j, p, s)] = times(plus(out), stones[j][s])
                halts = [times(once[(i, h, p, s)], closed[(h, j, p, s)]) for h in range(i + 2, j + 1, 2)]
                closed[(i, j, p, s)] = plus(halts)
    return closed


def rows_summed(table, W, stones, plus, times, unit):
    """The sum over all rows with the rest W and a stone for each place; times puts their stones together in order.

    stones[i][c] stands for the coat c at the place i, unit for no stones.
    """
    L = len(stones) - 1
    if len(W) - 1 > L or (L + 1 - len(W)) % 2 == 1:
        return plus([])
    closed = closed_sums(table, stones, plus, times, unit)
    ends = {j: times(stones[0][W[0]], closed[(0, j, NO_COAT, W[0])]) for j in range(0, L + 1, 2)}
    for at in range(1, len(W)):
        p, s = W[at - 1], W[at]
        come = {i + 1: times(ways, stones[i + 1][s]) for i, ways in ends.items() if i < L}
        ends = {
            j: plus([times(ways, closed[(i, j, p, s)]) for i, ways in come.items() if i <= j])
            for j in range(at, L + 1, 2)
        }
    return ends[L]


def added(numbers):
    """The sum of a list of numbers."""
    return sum(numbers)


def multiplied(one, two):
    """The product of two numbers."""
    return one * two


def sum_of_products(table, W, weights):
    """The sum over all rows with the rest W of the products of their weights; nothing is checked."""
    return rows_summed(table, W, weights, added, multiplied, 1)


def weighed(table, W, L, weights):
    """The sum over all rows of L steps with the rest W of the products of their weights."""
    check_straight_row(table, W)
    check_steps(L, MOST_STEPS)
    check_weights(table, L, weights, 10 ** 30)
    return sum_of_products(table, W, weights)
