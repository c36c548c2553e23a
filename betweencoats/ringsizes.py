"""How many rings come of one."""

from betweencoats.cores import reading
from betweencoats.evenlots import even_lots
from betweencoats.ringkeys import FAST, SINGLE, ring_core, ring_key
from betweencoats.rowcounts import closing_counts, mixed_all


def single_size(table, lot, n):
    """How many rings of n stones have a core of one stone and begin with a coat of a lot."""
    loose = closing_counts(table, n // 2)[0]
    lots = even_lots(table)
    return sum([loose[p][n // 2] for p in range(table.many) if len(table.beside[p]) > 0 and lots[p] == lot])


def loop_size(table, p, n):
    """How many rings of n stones have a core of one step, from the coat p to itself."""
    half = n // 2
    thread = closing_counts(table, half)[1][(p, p)]
    ways = thread
    total = 0
    for j in range(1, n + 1, 2):
        # Each ring is met once for each of its j steps that stay.
        total += n * ways[(n - j) // 2] // j
        ways = mixed_all(mixed_all(ways, thread), thread)
    return total


def least_period(middle):
    """The least number of steps after which a core reads as from its beginning."""
    many = len(middle) - 1
    return min([d for d in range(1, many + 1) if many % d == 0 and reading(middle, d) == reading(middle, 0)])


def core_size(table, middle, n):
    """How many rings of n stones have a core of three steps or more like a given one, and come of one another."""
    many = len(middle) - 1
    half = (n - many) // 2
    bound = closing_counts(table, half)[1]
    ways = [1] + [0] * half
    for at in range(many):
        ways = mixed_all(ways, bound[(middle[at], middle[at + 1])])
    period = least_period(middle)
    size = n * ways[half] // (many // period)
    # Turned by one place a core of an even period is one of another class.
    return size if period % 2 == 1 else size // 2


def ring_class_size(table, ring):
    """How many rings come of a ring, itself with them."""
    kind, told = ring_key(table, ring)
    if kind == FAST:
        return 1
    if kind == SINGLE:
        return single_size(table, told[0], len(ring))
    middle = ring_core(ring)[1]
    if len(middle) == 2:
        return loop_size(table, middle[0], len(ring))
    return core_size(table, middle, len(ring))
