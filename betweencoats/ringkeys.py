"""Keys of rings: what all rings that come of one another, and no others, have in common."""

from betweencoats.cores import reading, tail_and_core
from betweencoats.errors import BadSize
from betweencoats.evenlots import even_lots
from betweencoats.netshapes import ring_net
from betweencoats.standings import check_standing
from betweencoats.worlds import World

SMALLEST = 3
LARGEST = 24

SINGLE = 0
LOOSE = 1
FAST = 2


def ring_world(table, ring):
    """The world without pegs in which a ring stands; refuses what is no ring."""
    if not SMALLEST <= len(ring) <= LARGEST:
        raise BadSize(len(ring))
    world = World(table, ring_net(len(ring)), ())
    check_standing(world, ring)
    return world


def ring_core(ring):
    """The tail and the core of the row once round a ring."""
    return tail_and_core(ring + ring[:1])


def is_fast(ring):
    """Whether the two neighbours of each place of a ring have different coats."""
    return not any([ring[at - 2] == coat for at, coat in enumerate(ring)])


def ring_key(table, ring):
    """The kind of a ring, and the stones that tell its class among the rings of this kind and length."""
    ring_world(table, ring)
    if is_fast(ring):
        return FAST, ring
    tail, middle = ring_core(ring)
    many = len(middle) - 1
    if many == 0:
        return SINGLE, (even_lots(table)[ring[0]],)
    # Two turns, because only every second reading counts.
    return LOOSE, min([reading(middle, j) for j in range(2 * many) if (len(tail) - 1 + j) % 2 == 0])
