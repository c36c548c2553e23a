"""Standings between two others."""

from betweencoats.same import right_link, two_links
from betweencoats.work import deeds_due


def between(world, a, x, b):
    """Whether some least run from a to b goes by x."""
    found = two_links(world, a, x, b)
    if found is None:
        return False
    near = deeds_due(found[0])
    # Both come of a, so b comes of x.
    far = deeds_due(right_link(world, x, b))
    return all([near[place] + far[place] == due for place, due in enumerate(deeds_due(found[1]))])
