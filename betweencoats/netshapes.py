"""Nets of common shapes."""

from betweencoats.errors import BadCount, BadSize
from betweencoats.nets import MOST_PLACES, Net


def check_count(n, least):
    """Refuse a number of places that is not least to 24."""
    if not least <= n <= MOST_PLACES:
        raise BadCount(n)


def line_threads(n):
    """The threads 0 - 1 - 2 .. of a line."""
    return [(x, x + 1) for x in range(n - 1)]


def line_net(n):
    """The line of n places."""
    check_count(n, 1)
    return Net(n, tuple(line_threads(n)))


def ring_net(n):
    """The line of n places with its ends tied to one another."""
    check_count(n, 3)
    return Net(n, tuple(sorted(line_threads(n) + [(0, n - 1)])))


def star_net(n):
    """The net of n places in which 0 is threaded to all others."""
    check_count(n, 1)
    return Net(n, tuple([(0, x) for x in range(1, n)]))


def grid_net(w, h):
    """The grid of h rows of w places; the place x of row y is y * w + x."""
    check_count(w, 1)
    check_count(h, 1)
    if w * h > MOST_PLACES:
        raise BadSize(w * h)
    threads = []
    for place in range(w * h):
        if (place + 1) % w != 0:
            threads.append((place, place + 1))
        if place + w < w * h:
            threads.append((place, place + w))
    return Net(w * h, tuple(threads))
