"""How many rows there are in tables in which each coat has as many roads."""

from math import comb

from betweencoats.errors import BadCount
from betweencoats.rowcounts import MOST_STEPS, check_steps


def even_count(q, m, L):
    """How many rows of L steps have a given rest of m steps, if each coat has q roads."""
    if not 2 <= q <= 8:
        raise BadCount(q)
    check_steps(m, MOST_STEPS)
    check_steps(L, MOST_STEPS)
    if m > L or (L - m) % 2 == 1:
        return 0
    total = 0
    ways = 1
    fewer = 0
    for j in range((L - m) // 2 + 1):
        total += (comb(L, j) - fewer) * ways
        fewer = comb(L, j)
        ways *= q - 1
    return total
