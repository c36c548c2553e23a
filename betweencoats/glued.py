"""Glued worlds: a peg of one world put on a peg of another one."""

from betweencoats.errors import BadSize, BadTable, NotPegged
from betweencoats.nets import MOST_PLACES, MOST_THREADS, Net, check_place
from betweencoats.worlds import World


def check_peg(world, place):
    """Refuse a number that is no place or no peg."""
    check_place(world.net, place)
    if place not in world.pegs:
        raise NotPegged(place)


def check_glue(one, two):
    """Refuse worlds with different tables, or that make too large a net together."""
    if one.table != two.table:
        raise BadTable(0)
    places = one.net.many + two.net.many - 1
    if places > MOST_PLACES:
        raise BadSize(places)
    threads = len(one.net.threads) + len(two.net.threads)
    if threads > MOST_THREADS:
        raise BadSize(threads)


def numbers_after(one, two, x, y):
    """For each place of two its number in the glued world."""
    others = [place for place in range(two.net.many) if place != y]
    number = {place: one.net.many + at for at, place in enumerate(others)}
    number[y] = x
    return number


def glued(one, two, x, y):
    """The world of both worlds, in which the peg y of two is the peg x of one."""
    check_peg(one, x)
    check_peg(two, y)
    check_glue(one, two)
    number = numbers_after(one, two, x, y)
    moved = [tuple(sorted([number[u], number[v]])) for u, v in two.net.threads]
    threads = sorted(list(one.net.threads) + moved)
    pegs = sorted(set(list(one.pegs) + [number[peg] for peg in two.pegs]))
    return World(one.table, Net(one.net.many + two.net.many - 1, tuple(threads)), tuple(pegs))
