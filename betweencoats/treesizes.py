"""How many standings come of one, where the pieces of its world are simple enough."""

from betweencoats.errors import BadNet, TooMany
from betweencoats.pieces import pieces_of
from betweencoats.rests import struck
from betweencoats.standings import check_standing
from betweencoats.weighed import sum_of_products
from betweencoats.worlds import check_pegged


def has_closed_way(world, lot):
    """Whether threads between the places of a lot make a closed way."""
    threads = [x for x, y in world.net.threads if x in lot and y in lot]
    return len(threads) >= len(lot)


def threads_to_pegs(world, lot):
    """The threads from the places of a lot to pegs, each as (peg, place)."""
    return [(peg, place) for place in lot for peg in world.net.near[place] if peg in world.pegs]


def checked_lots(world):
    """The unpegged places of each piece; refuses pieces with a closed way, then those with many threads to pegs."""
    lots = [[place for place in piece if place not in world.pegs] for piece in pieces_of(world)]
    for lot in lots:
        if has_closed_way(world, lot):
            raise BadNet(0)
    for lot in lots:
        many = len(threads_to_pegs(world, lot))
        if many > 2:
            raise TooMany(many)
    return lots


def fillings(world, place, barred):
    """For each coat at a place how many ways there are to fill all that hangs at it, barred places left out."""
    ways = [1] * world.table.many
    for other in world.net.near[place]:
        if other not in barred:
            below = fillings(world, other, barred + (place,))
            ways = [many * sum([below[road] for road in world.table.beside[coat]]) for coat, many in enumerate(ways)]
    return ways


def way_between(world, place, goal, barred):
    """The places from a place of a tree to another one, barred places left out; () if there is no way."""
    if place == goal:
        return (place,)
    for other in world.net.near[place]:
        if other not in barred:
            way = way_between(world, other, goal, barred + (place,))
            if len(way) > 0:
                return (place,) + way
    return ()


def lot_size(world, a, lot):
    """In how many ways the places of a lot stand in the standings that come of a."""
    ends = threads_to_pegs(world, lot)
    peg, place = ends[0]
    if len(ends) == 1:
        ways = fillings(world, place, world.pegs)
        return sum([ways[coat] for coat in world.table.beside[a[peg]]])
    far_peg, far_place = ends[1]
    way = way_between(world, place, far_place, world.pegs)
    row = [a[spot] for spot in (peg,) + way + (far_peg,)]
    weights = [fillings(world, spot, world.pegs + way) for spot in way]
    # The rest holds the coats at both ends fast.
    ends_weigh = [[1] * world.table.many]
    return sum_of_products(world.table, struck(row), ends_weigh + weights + ends_weigh)


def tree_size(world, a):
    """How many standings come of a, itself with them."""
    check_pegged(world)
    check_standing(world, a)
    size = 1
    for lot in checked_lots(world):
        size *= lot_size(world, a, lot)
    return size
