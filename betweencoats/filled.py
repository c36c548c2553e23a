"""A standing that comes of a flat one and has given lifts at some places."""

from betweencoats.apart import apart
from betweencoats.errors import BadWant, NotFlat
from betweencoats.gaps import gap_of
from betweencoats.lifts import closes, lift_rows
from betweencoats.rests import MOST_STONES, bends
from betweencoats.standings import check_standing
from betweencoats.tables import row_fault
from betweencoats.worlds import check_pegged


def is_wanted_row(table, row, start, far):
    """Whether a tuple of numbers can be the lift of a place that is far threads from a base with the coat start."""
    if not 1 <= len(row) <= MOST_STONES or row[0] != start or (len(row) - 1 - far) % 2 == 1:
        return False
    return row_fault(table, row) is None and bends(row) == ()


def check_wants(world, a, wants):
    """Refuse wants whose places do not ascend, or whose rows cannot be lifts."""
    far = apart(world.net, world.base)
    last = -1
    for at, (place, row) in enumerate(wants):
        if not last < place < world.net.many or not is_wanted_row(world.table, row, a[world.base], far[place]):
            raise BadWant(at)
        last = place


def first_far(world, own, rows):
    """The first pair of set places whose rows no standing has, or None; own are the lifts of the pegs as they are."""
    for peg in world.pegs:
        if rows[peg] != own[peg]:
            return peg, peg
    places = sorted(rows)
    for v in places:
        far = apart(world.net, v)
        for w in places:
            if v < w and gap_of(rows[v], rows[w]) > far[w]:
                return v, w
    return None


def row_within(world, rows, place):
    """The row of a place that is not set, by the rows of all places that have one."""
    far = apart(world.net, place)
    row = max([other[:max(1, len(other) - far[w])] for w, other in rows.items()], key=len)
    if (len(row) - 1 - apart(world.net, world.base)[place]) % 2 == 0:
        return row
    if len(row) > 1:
        return row[:-1]
    return row + world.table.beside[row[0]][:1]


def filled_rows(world, rows):
    """The rows of all places, by those of the set places."""
    known = dict(rows)
    for place in range(world.net.many):
        if place not in known:
            known[place] = row_within(world, known, place)
    return [known[place] for place in range(world.net.many)]


def filled(world, a, wants):
    """A standing that comes of a with the wanted lifts, or two places that are too far apart for them."""
    check_pegged(world)
    check_standing(world, a)
    check_wants(world, a, wants)
    if not closes(world, a):
        raise NotFlat(0)
    own = lift_rows(world, a)
    rows = {peg: own[peg] for peg in world.pegs}
    for place, row in wants:
        rows[place] = row
    pair = first_far(world, own, rows)
    if pair is not None:
        return "far", pair[0], pair[1]
    return "standing", tuple([row[-1] for row in filled_rows(world, rows)])
