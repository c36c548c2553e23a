"""Maps of nets, and standings read along them."""

from betweencoats.errors import BadPlace
from betweencoats.kinds import are_numbers


def is_net_map(net, other, places):
    """Whether any value is a map from net to other."""
    if not are_numbers(places) or len(places) != net.many:
        return False
    if not all([0 <= place < other.many for place in places]):
        return False
    return all([places[y] in other.near[places[x]] for x, y in net.threads])


def pulled(standing, places):
    """For each of some places the coat there."""
    for place in places:
        if not 0 <= place < len(standing):
            raise BadPlace(place)
    return tuple([standing[place] for place in places])
