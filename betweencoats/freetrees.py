"""Whether a standing comes of another one, on a tree without pegs."""

from betweencoats.errors import BadNet
from betweencoats.evenlots import same_lot
from betweencoats.standings import check_standing
from betweencoats.worlds import check_free


def tree_come(world, a, b):
    """Whether b comes of a, in a world without pegs on a tree."""
    check_free(world)
    if len(world.net.threads) != world.net.many - 1:
        raise BadNet(0)
    check_standing(world, a)
    check_standing(world, b)
    if world.net.many == 1:
        return a == b
    return same_lot(world.table, a[0], b[0])
