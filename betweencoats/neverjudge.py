"""The judge of never papers."""

from betweencoats.frozen import is_held
from betweencoats.kinds import are_numbers, climb_fault
from betweencoats.rests import struck
from betweencoats.standings import is_standing

MOST_PLACES = 200


def is_walk(world, thing):
    """Whether any value is a walk of 1 to 200 places that begins with the base."""
    if not are_numbers(thing) or not 1 <= len(thing) <= MOST_PLACES or thing[0] != world.base:
        return False
    # The base is a place, and so is each neighbour of a place.
    for at in range(1, len(thing)):
        if thing[at] not in world.net.near[thing[at - 1]]:
            return False
    return True


def holds_itself(world, a, thing):
    """Whether any value is an ascending tuple of places that are held by one another, at least one."""
    if not are_numbers(thing) or len(thing) == 0 or climb_fault(thing, world.net.many) is not None:
        return False
    kept = [place in thing for place in range(world.net.many)]
    return all([is_held(world, a, kept, place) for place in thing])


def is_paper(world, a, paper):
    """Whether any value has the form of a never paper for a standing of a world with pegs."""
    if not isinstance(paper, tuple):
        return False
    if len(paper) == 2 and paper[0] == "round":
        return is_walk(world, paper[1]) and paper[1][-1] == world.base
    if len(paper) == 3 and paper[0] == "stand":
        return holds_itself(world, a, paper[1]) and is_walk(world, paper[2]) and paper[2][-1] in paper[1]
    return False


def never_right(world, a, b, paper):
    """Whether a and b are standings and paper is a right never paper for them; all three may be any values."""
    if len(world.pegs) == 0 or not is_standing(world, a) or not is_standing(world, b):
        return False
    if not is_paper(world, a, paper):
        return False
    return struck([a[place] for place in paper[-1]]) != struck([b[place] for place in paper[-1]])
