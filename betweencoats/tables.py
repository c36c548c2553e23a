"""Tables: which coats may stand beside one another."""

from betweencoats.errors import BadSize, BadStone, BadTable
from betweencoats.kinds import climb_fault
from betweencoats.rests import MOST_STONES

MOST_COATS = 8


class Table:
    """A table of the coats 0 to many - 1; `beside` has for each coat its roads, ascending."""

    def __init__(self, beside):
        self.many = len(beside)
        self.beside = beside

    def __eq__(self, other):
        return isinstance(other, Table) and self.beside == other.beside


def made_table(rows):
    """The table in which the coats beside coat p are rows[p]."""
    if not 1 <= len(rows) <= MOST_COATS:
        raise BadSize(len(rows))
    for coat, roads in enumerate(rows):
        if climb_fault(roads, len(rows)) is not None:
            raise BadTable(coat)
    for coat, roads in enumerate(rows):
        if not all([coat in rows[road] for road in roads]):
            raise BadTable(coat)
    return Table(rows)


def row_fault(table, row):
    """The first index whose number is no coat of the table or not beside the coat before it, or None."""
    for at, coat in enumerate(row):
        if not 0 <= coat < table.many:
            return at
        if at > 0 and coat not in table.beside[row[at - 1]]:
            return at
    return None


def check_table_row(table, row):
    """Refuse a tuple of numbers that is no row of a table with 1 to 200 stones."""
    if not 1 <= len(row) <= MOST_STONES:
        raise BadSize(len(row))
    fault = row_fault(table, row)
    if fault is not None:
        raise BadStone(fault)
