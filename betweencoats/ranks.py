"""Numbers of rows among all rows with as many steps and the same rest."""

from betweencoats.errors import BadRank
from betweencoats.rests import struck
from betweencoats.rowcounts import MOST_STEPS, check_steps, check_straight_row, closing_counts, count_rows
from betweencoats.tables import check_table_row


def rest_ahead(left, coat):
    """The rest of a row without its first stone, if left is its rest and the coat its second stone."""
    if left[1:2] == (coat,):
        return left[1:]
    return (coat,) + left


def counts_ahead(counts, left, coats, steps):
    """For each of some second coats how many rows with the rest left have so many steps behind it."""
    return [count_rows(counts, rest_ahead(left, coat), steps) for coat in coats]


def nth_row(table, W, L, n):
    """The row with the index n among all rows of L steps with the rest W in ascending order."""
    check_straight_row(table, W)
    check_steps(L, MOST_STEPS)
    counts = closing_counts(table, L // 2)
    if not 0 <= n < count_rows(counts, W, L):
        raise BadRank(n)
    row = W[:1]
    left = W
    for at in range(1, L + 1):
        roads = table.beside[row[-1]]
        many = counts_ahead(counts, left, roads, L - at)
        road = 0
        while n >= many[road]:
            n -= many[road]
            road += 1
        row = row + (roads[road],)
        left = rest_ahead(left, roads[road])
    return row


def rank_of(table, row):
    """How many rows with as many stones and the same rest are less than a row."""
    check_table_row(table, row)
    steps = len(row) - 1
    check_steps(steps, MOST_STEPS)
    counts = closing_counts(table, steps // 2)
    left = struck(row)
    rank = 0
    for at in range(1, steps + 1):
        lesser = [coat for coat in table.beside[left[0]] if coat < row[at]]
        rank += sum(counts_ahead(counts, left, lesser, steps - at))
        left = rest_ahead(left, row[at])
    return rank
