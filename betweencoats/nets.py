"""Nets: places, and threads between them."""

from betweencoats.errors import BadNet, BadPlace, BadSize, Parted
from betweencoats.kinds import is_pair

MOST_PLACES = 24
MOST_THREADS = 60


class Net:
    """A net of the places 0 to many - 1; `near` has for each place its neighbours, ascending."""

    def __init__(self, many, threads):
        near = [[] for _ in range(many)]
        for x, y in threads:
            near[x].append(y)
            near[y].append(x)
        self.many = many
        self.threads = threads
        self.near = tuple([tuple(sorted(places)) for places in near])

    def __eq__(self, other):
        return isinstance(other, Net) and self.many == other.many and self.threads == other.threads


def made_net(many, threads):
    """The net of many places with the threads, pairs (x, y) with x < y, ascending."""
    if not 1 <= many <= MOST_PLACES:
        raise BadSize(many)
    if len(threads) > MOST_THREADS:
        raise BadSize(len(threads))
    for at, thread in enumerate(threads):
        if not is_thread(thread, many) or (at > 0 and thread <= threads[at - 1]):
            raise BadNet(at)
    net = Net(many, threads)
    reached = come_to(net, 0)
    for place in range(many):
        if place not in reached:
            raise Parted(place)
    return net


def is_thread(thread, many):
    """Whether a thread is a pair x < y of places."""
    return is_pair(thread) and 0 <= thread[0] < thread[1] < many


def come_to(net, x):
    """The upper of each place in a breadth-first search from x, -1 for x, in the order of coming to them."""
    found = {x: -1}
    order = [x]
    at = 0
    while at < len(order):
        upper = order[at]
        for place in net.near[upper]:
            if place not in found:
                found[place] = upper
                order.append(place)
        at += 1
    return found


def check_place(net, x):
    """Refuse a number that is no place."""
    if not 0 <= x < net.many:
        raise BadPlace(x)
