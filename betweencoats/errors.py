"""The errors of this package."""


class Refused(ValueError):
    """A call was refused; `what` is the thing that was bad."""

    def __init__(self, what):
        self.what = what


class BadSize(Refused):
    """There are too few or too many of something."""


class BadCount(Refused):
    """A number that counts something is out of its range."""


class BadTable(Refused):
    """The rows of coats do not make a table."""


class BadNet(Refused):
    """The threads do not make a net."""


class Parted(Refused):
    """No threads lead from place 0 to a place."""


class BadPegs(Refused):
    """The pegs are not ascending places."""


class BadCoat(Refused):
    """A number is no coat, or a coat that may not be taken."""


class BadJoin(Refused):
    """Two stones that ought to be the same are not."""


class BadStone(Refused):
    """A stone of a standing, or of a row of a table, is bad."""


class BadPlace(Refused):
    """A number is no place."""


class Pegged(Refused):
    """A place is a peg and ought not to be one."""


class NotPegged(Refused):
    """A place is no peg and ought to be one."""


class NotAmong(Refused):
    """A place has no neighbours, or neighbours of different coats."""


class NoPeg(Refused):
    """A world has no peg and needs one."""


class BadDeed(Refused):
    """A deed of a run is not let where it stands."""


class BadFirst(Refused):
    """The first row or coat, from which the others follow, is bad."""


class BadPrice(Refused):
    """A price is out of its range."""


class NotFlat(Refused):
    """A standing is not flat and ought to be."""


class NotStraight(Refused):
    """A row has a turn and ought to have none."""


class BadRank(Refused):
    """There is no row with an index."""


class BadWeights(Refused):
    """The weights do not suit the table and the steps."""


class TooMany(Refused):
    """There are more of something than are dealt with."""


class BadMap(Refused):
    """A tuple is no map of the kind that is due."""


class Base(Refused):
    """The base of the opening's world stays a peg."""


class NothingToUndo(Refused):
    """No deed stands."""


class NothingToRedo(Refused):
    """No undone deed is left."""


class BadText(Refused):
    """A word or a row of a text is bad."""


class BadWant(Refused):
    """A want is bad."""


class Null(Refused):
    """A question is refused for what has nothing that holds it fast."""
