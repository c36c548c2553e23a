"""How many rings there are, and how many classes of them."""

from math import gcd

from betweencoats.classcounts import straight_on
from betweencoats.errors import BadCount
from betweencoats.evenlots import even_lots
from betweencoats.ringkeys import SMALLEST

MOST_STONES = 40


def check_stones(n, least):
    """Refuse a number of stones that is not least to 40."""
    if not least <= n <= MOST_STONES:
        raise BadCount(n)


def straight_counts(table, most):
    """For each n from 0 to most how many rings of n stones have no stone with two equal neighbours; 0 for n = 0."""
    found = [0] * (most + 1)
    for p in range(table.many):
        for s in table.beside[p]:
            last = {(p, s): 1}
            for n in range(1, most + 1):
                last = straight_on(table, last)
                found[n] += last.get((p, s), 0)
    return found


def straight_rings(table, n):
    """How many rings of n stones have no stone with two equal neighbours."""
    check_stones(n, 1)
    return straight_counts(table, n)[n]


def divisors(m):
    """The divisors of m, ascending."""
    return [d for d in range(1, m + 1) if m % d == 0]


def phi(d):
    """How many of the numbers 1 to d have no common divisor above 1 with d."""
    return len([k for k in range(1, d + 1) if gcd(k, d) == 1])


def core_classes(table, straight, m):
    """How many classes there are of rings with a core of m steps and a place between equal coats."""
    if m == 0:
        lots = even_lots(table)
        return len({lots[p] for p in range(table.many) if len(table.beside[p]) > 0})
    if m == 1:
        return len([p for p in range(table.many) if p in table.beside[p]])
    # Rings that can be turned into one another are counted once; by two places each time if m is even.
    turns = m if m % 2 == 1 else m // 2
    return sum([phi(d) * straight[m // d] for d in divisors(turns)]) // turns


def ring_classes(table, n):
    """How many classes the rings of n stones have."""
    check_stones(n, SMALLEST)
    straight = straight_counts(table, n)
    return straight[n] + sum([core_classes(table, straight, m) for m in range(n % 2, n, 2)])
