"""How many rests the rows between two coats have."""

from betweencoats.rowcounts import MOST_STEPS, check_coat, check_steps


def straight_on(table, last):
    """How many straight rows there are with one step more, by their last two coats."""
    into = {}
    for pair, many in last.items():
        into[pair[1]] = into.get(pair[1], 0) + many
    # Any road leads on but the one back.
    return {(p, s): into[p] - last.get((s, p), 0) for p in into for s in table.beside[p]}


def classes_between(table, p, z, L):
    """How many different rests the rows of L steps from p to z have."""
    check_coat(table, p)
    check_coat(table, z)
    check_steps(L, MOST_STEPS)
    if L > 0 and len(table.beside[p]) == 0:
        return 0
    total = 1 if L % 2 == 0 and p == z else 0
    last = {(p, s): 1 for s in table.beside[p]}
    for steps in range(1, L + 1):
        if (L - steps) % 2 == 0:
            total += sum([many for pair, many in last.items() if pair[1] == z])
        last = straight_on(table, last)
    return total
