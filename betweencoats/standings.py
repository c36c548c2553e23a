"""Standings: a coat for each place, so that threaded places have coats beside one another."""

from betweencoats.errors import BadCount, BadSize, BadStone
from betweencoats.kinds import are_numbers


def stone_fits(world, stones, place):
    """Whether the stone at a place is a coat, beside those of the lesser neighbours."""
    coat = stones[place]
    if not 0 <= coat < world.table.many:
        return False
    roads = world.table.beside[coat]
    return all([stones[other] in roads for other in world.net.near[place] if other < place])


def check_standing(world, standing):
    """Refuse a tuple of numbers that is no standing of the world."""
    if len(standing) != world.net.many:
        raise BadSize(len(standing))
    for place in range(world.net.many):
        if not stone_fits(world, standing, place):
            raise BadStone(place)


def is_standing(world, thing):
    """Whether any value is a standing of the world."""
    if not are_numbers(thing) or len(thing) != world.net.many:
        return False
    return all([stone_fits(world, thing, place) for place in range(world.net.many)])


def standings_of(world):
    """All standings of a small world, ascending."""
    if world.net.many > 6:
        raise BadSize(world.net.many)
    if world.table.many > 4:
        raise BadCount(world.table.many)
    begun = [()]
    for place in range(world.net.many):
        longer = [stones + (coat,) for stones in begun for coat in range(world.table.many)]
        begun = [stones for stones in longer if stone_fits(world, stones, place)]
    return tuple(begun)
