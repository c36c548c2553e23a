"""How many rows of a table have a number of steps, by their ends or by their rest."""

from betweencoats.errors import BadCoat, BadCount, NotStraight
from betweencoats.rests import bends
from betweencoats.tables import check_table_row

MOST_STEPS = 40


def check_steps(L, most):
    """Refuse a number of steps that is not 0 to most."""
    if not 0 <= L <= most:
        raise BadCount(L)


def check_coat(table, p):
    """Refuse a number that is no coat of a table."""
    if not 0 <= p < table.many:
        raise BadCoat(p)


def check_straight_row(table, W):
    """Refuse a tuple of numbers that is no row of a table, or has a turn."""
    check_table_row(table, W)
    found = bends(W)
    if len(found) > 0:
        raise NotStraight(found[0])


def end_counts(table, p, L):
    """For each coat how many rows of L steps lead from p to it."""
    counts = [1 if coat == p else 0 for coat in range(table.many)]
    for _ in range(L):
        # A coat is beside its own roads, so the rows that end with it come from these.
        counts = [sum([counts[road] for road in table.beside[coat]]) for coat in range(table.many)]
    return counts


def mixed(one, two, j):
    """The sum of one[i] * two[j - i] over i = 0 to j."""
    return sum([one[i] * two[j - i] for i in range(j + 1)])


def mixed_all(one, two):
    """The sums of one[i] * two[j - i] for each j, as far as the counts in one go."""
    return [mixed(one, two, j) for j in range(len(one))]


def closing_counts(table, most):
    """How many rows of 2 * j steps come back to where they began, for each j from 0 to most.

    A pair of dicts: by a coat p the counts of all that begin with p (the document's E), and by a coat p and a road s
    of it the counts of those that begin with s and never have the rest (s, p) on their way (the document's A).
    """
    loose = {p: [1] for p in range(table.many)}
    bound = {(p, s): [1] for p in range(table.many) for s in table.beside[p]}
    # A row goes out by its first thread, comes back by it, and goes on; this counts the ways out and back.
    out = {p: [] for p in range(table.many)}
    for j in range(1, most + 1):
        for p in range(table.many):
            out[p].append(sum([bound[(p, s)][j - 1] for s in table.beside[p]]))
        for p in range(table.many):
            loose[p].append(mixed(out[p], loose[p], j - 1))
        longer = {}
        for p, s in bound:
            others = [out[s][i] - bound[(s, p)][i] for i in range(j)]
            longer[(p, s)] = mixed(others, bound[(p, s)], j - 1)
        for pair, many in longer.items():
            bound[pair].append(many)
    return loose, bound


def count_by_rest(counts, W, k):
    """How many rows with k strikes have the rest W; counts are closing_counts up to k at least."""
    loose, bound = counts
    ways = loose[W[0]][:k + 1]
    for at in range(1, len(W)):
        ways = mixed_all(ways, bound[(W[at - 1], W[at])])
    return ways[k]


def count_rows(counts, W, L):
    """How many rows of L steps have the straight rest W; counts are closing_counts up to L // 2 at least."""
    spare = L + 1 - len(W)
    if spare < 0 or spare % 2 == 1:
        return 0
    return count_by_rest(counts, W, spare // 2)


def row_count(table, W, L):
    """How many rows of L steps have the rest W."""
    check_straight_row(table, W)
    check_steps(L, MOST_STEPS)
    return count_rows(closing_counts(table, L // 2), W, L)


def all_rows(table, p, L):
    """How many rows of L steps begin with the coat p."""
    check_coat(table, p)
    check_steps(L, MOST_STEPS)
    return sum(end_counts(table, p, L))


def rows_between(table, p, z, L):
    """How many rows of L steps lead from the coat p to the coat z."""
    check_coat(table, p)
    check_coat(table, z)
    check_steps(L, MOST_STEPS)
    return end_counts(table, p, L)[z]
