"""Tracks: the coats that a place has along every least run."""

from betweencoats.same import checked_link


def tracks(world, a, b):
    """For each place its coats along the least runs from a to b, in order, or None."""
    rows = checked_link(world, a, b)
    if rows is None:
        return None
    return tuple([row[::2] for row in rows])
