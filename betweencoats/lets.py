"""Deeds: a stone among neighbours of one coat takes another coat."""

from betweencoats.errors import BadCoat, NotAmong, Pegged
from betweencoats.nets import check_place
from betweencoats.standings import check_standing


def coat_around(net, standing, place):
    """The coat that all neighbours of a place have; None if they differ or there are none."""
    coats = [standing[other] for other in net.near[place]]
    if len(coats) == 0 or min(coats) != max(coats):
        return None
    return coats[0]


def coats_let(world, standing, place):
    """The coats that a place may take, ascending."""
    if place in world.pegs:
        return []
    around = coat_around(world.net, standing, place)
    if around is None:
        return []
    return [coat for coat in world.table.beside[around] if coat != standing[place]]


def is_let(world, standing, place, coat):
    """Whether a deed, of any two numbers, is let at a standing."""
    return 0 <= place < world.net.many and coat in coats_let(world, standing, place)


def changed(standing, place, coat):
    """The standing with another coat at a place."""
    return standing[:place] + (coat,) + standing[place + 1:]


def let_deeds(world, standing):
    """All deeds that are let at a standing that was checked, ascending."""
    return [(place, coat) for place in range(world.net.many) for coat in coats_let(world, standing, place)]


def lets(world, standing):
    """All deeds that are let at a standing, ascending."""
    check_standing(world, standing)
    return tuple(let_deeds(world, standing))


def done(world, standing, place, coat):
    """The standing after the deed (place, coat)."""
    check_standing(world, standing)
    check_place(world.net, place)
    if place in world.pegs:
        raise Pegged(place)
    if coat_around(world.net, standing, place) is None:
        raise NotAmong(place)
    if coat not in coats_let(world, standing, place):
        raise BadCoat(coat)
    return changed(standing, place, coat)
