"""Tables of common shapes."""

from betweencoats.errors import BadCount, BadSize
from betweencoats.tables import MOST_COATS, Table


def check_count(q, least):
    """Refuse a number of coats that is not least to 8."""
    if not least <= q <= MOST_COATS:
        raise BadCount(q)


def all_coats(q):
    """The table of q coats in which each coat is beside all, itself too."""
    check_count(q, 1)
    return Table(tuple([tuple(range(q)) for _ in range(q)]))


def unlike_coats(q):
    """The table of q coats in which each coat is beside all others."""
    check_count(q, 1)
    return Table(tuple([tuple([s for s in range(q) if s != p]) for p in range(q)]))


def line_coats(q):
    """The table of q coats in which each coat is beside the next and the previous one, where there is one."""
    check_count(q, 1)
    return Table(tuple([tuple([s for s in (p - 1, p + 1) if 0 <= s < q]) for p in range(q)]))


def ring_coats(q):
    """The table of q coats in which each coat is beside the next and the previous one, modulo q."""
    check_count(q, 3)
    return Table(tuple([tuple(sorted([(p - 1) % q, (p + 1) % q])) for p in range(q)]))


def doubled(table):
    """The table with two coats for each one, whose roads lead from one side to the other."""
    if 2 * table.many > MOST_COATS:
        raise BadSize(2 * table.many)
    return Table(tuple([
        tuple([2 * road + 1 - side for road in table.beside[coat]])
        for coat in range(table.many) for side in range(2)
    ]))


def even_degree(table):
    """The number of roads of each coat if it is the same for all, otherwise None."""
    degrees = [len(roads) for roads in table.beside]
    if min(degrees) != max(degrees):
        return None
    return degrees[0]
