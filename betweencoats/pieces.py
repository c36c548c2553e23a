"""Pieces: what the pegs part a net into."""

from betweencoats.errors import BadCount
from betweencoats.nets import Net
from betweencoats.worlds import World, check_pegged


def piece_around(world, start):
    """The places that threads between unpegged places lead to from an unpegged one, and the pegs at them, ascending."""
    found = [start]
    at = 0
    while at < len(found):
        if found[at] not in world.pegs:
            found = found + [other for other in world.net.near[found[at]] if other not in found]
        at += 1
    return tuple(sorted(found))


def pieces_of(world):
    """The pieces of a world in the order of their least unpegged places."""
    found = []
    for place in range(world.net.many):
        if place not in world.pegs and not any([place in piece for piece in found]):
            found.append(piece_around(world, place))
    return tuple(found)


def pieces(world):
    """The pieces of a world with pegs."""
    check_pegged(world)
    return pieces_of(world)


def piece_world(world, k):
    """The world of the piece with the index k; its places are numbered in their order."""
    check_pegged(world)
    found = pieces_of(world)
    if not 0 <= k < len(found):
        raise BadCount(k)
    number = {place: at for at, place in enumerate(found[k])}
    threads = [
        (number[x], number[y]) for x, y in world.net.threads
        if x in number and y in number and not (x in world.pegs and y in world.pegs)
    ]
    pegs = [number[peg] for peg in world.pegs if peg in number]
    return World(world.table, Net(len(number), tuple(threads)), tuple(pegs))
