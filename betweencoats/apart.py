"""How far places are apart, and by which place each one is come to."""

from betweencoats.nets import check_place, come_to


def apart(net, x):
    """For each place the fewest threads of a walk from x to it."""
    check_place(net, x)
    found = come_to(net, x)
    far = {-1: -1}
    for place, upper in found.items():
        far[place] = far[upper] + 1
    return tuple([far[place] for place in range(net.many)])


def uppers(net, x):
    """For each place the place from which it is first come to from x; -1 for x."""
    check_place(net, x)
    found = come_to(net, x)
    return tuple([found[place] for place in range(net.many)])
