"""The least number of deeds between rings."""

from betweencoats.cores import along, reading
from betweencoats.errors import BadSize, Null
from betweencoats.joins import run_on
from betweencoats.links import link_of
from betweencoats.ringkeys import FAST, SINGLE, ring_core, ring_key, ring_world
from betweencoats.work import deeds_due


def row_round(one, two, j):
    """The row down the tail of one, j steps round its core and up the tail of two; None if it is none.

    one and two are pairs (tail, core), with cores of one length. The row is to have even steps, and the core of two is
    to read on where the core of one is left.
    """
    if (len(one[0]) + j + len(two[0])) % 2 == 1 or reading(one[1], j) != reading(two[1], 0):
        return None
    return run_on(along(one[0], one[1], j), two[0][::-1])


def links_round(world, a, b, one, two, turns):
    """The links from a to b with row_round at place 0, for each number of turns that gives one."""
    firsts = [row_round(one, two, j) for j in turns]
    links = [link_of(world, a, b, first) for first in firsts if first is not None]
    return [rows for rows in links if rows is not None]


def steps_in(rows):
    """How many steps the rows of a link have."""
    return sum([len(row) - 1 for row in rows])


def least_links_round(world, a, b, one, two):
    """Links from a to b with row_round at place 0; all of them with the least sum of steps are there."""
    many = len(one[1]) - 1
    if many == 1:
        return links_round(world, a, b, one, two, (0, 1))
    for j in range(2 * many):
        for rows in links_round(world, a, b, one, two, (j,)):
            # Farther round, the rows are longer than these.
            reach = 2 * steps_in(rows) // world.net.many
            return links_round(world, a, b, one, two, list(range(j - reach, j + reach + 1)))
    return []


def ring_least(table, a, b):
    """The least number of deeds that lead from the ring a to the ring b, or None if b does not come of a."""
    one = ring_key(table, a)
    two = ring_key(table, b)
    if len(b) != len(a):
        raise BadSize(len(b))
    if one[0] == SINGLE:
        raise Null(0)
    if one != two:
        return None
    if one[0] == FAST:
        return 0
    links = least_links_round(ring_world(table, a), a, b, ring_core(a), ring_core(b))
    return min([sum(deeds_due(rows)) for rows in links])
