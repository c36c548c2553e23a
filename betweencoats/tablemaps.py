"""Maps of tables, and rows read along them."""

from betweencoats.errors import BadCoat
from betweencoats.kinds import are_numbers


def is_map(table, other, coats):
    """Whether any value is a map from table to other."""
    if not are_numbers(coats) or len(coats) != table.many:
        return False
    if not all([0 <= coat < other.many for coat in coats]):
        return False
    return all([coats[s] in other.beside[coats[p]] for p in range(table.many) for s in table.beside[p]])


def image(row, coats):
    """For each number of a row the number at this index in coats."""
    for coat in row:
        if not 0 <= coat < len(coats):
            raise BadCoat(coat)
    return tuple([coats[coat] for coat in row])
