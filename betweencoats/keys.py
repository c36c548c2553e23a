"""Keys: what all standings of a class, and no others, have in common."""

from betweencoats.frozen import frozen_places
from betweencoats.lifts import closing_rows, lift_rows
from betweencoats.standings import check_standing
from betweencoats.worlds import check_pegged


def key(world, a):
    """The frozen places of a standing, the lifts of these places, and the closing rows."""
    check_pegged(world)
    check_standing(world, a)
    still = frozen_places(world, a)
    rows = lift_rows(world, a)
    return still, tuple([rows[place] for place in still]), closing_rows(world, a)
