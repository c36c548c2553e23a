"""Work: how many deeds lead from one standing to another one, in all and at each place."""

from betweencoats.same import checked_link


def deeds_due(rows):
    """How many deeds each place has in a least run with the rows of a link."""
    return tuple([len(row) // 2 for row in rows])


def work(world, a, b):
    """For each place the number of its deeds in least runs from a to b, or None."""
    rows = checked_link(world, a, b)
    if rows is None:
        return None
    return deeds_due(rows)


def least(world, a, b):
    """The least number of deeds of a run from a to b, or None."""
    rows = checked_link(world, a, b)
    if rows is None:
        return None
    return sum(deeds_due(rows))
