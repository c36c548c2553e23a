"""The floor: a standing that is kept through deeds, pegs and undoing."""

from betweencoats.errors import Base, NothingToRedo, NothingToUndo, NotPegged, Pegged, TooMany
from betweencoats.leastruns import least_run
from betweencoats.lets import changed, done
from betweencoats.nets import check_place
from betweencoats.pegs import with_pegs, without_peg
from betweencoats.standings import check_standing
from betweencoats.traces import traced
from betweencoats.work import deeds_due
from betweencoats.worlds import check_pegged

MOST_DEEDS = 300


def opposite(deed):
    """The deed that takes a deed back, as a row of a record."""
    if deed[0] == "put":
        return "put", deed[1], deed[3], deed[2]
    if deed[0] == "peg":
        return "unpeg", deed[1]
    return "peg", deed[1]


class Floor:
    """A world with pegs, a standing, and the deeds that stand; a deed is kept as its row of the record."""

    def __init__(self, world, standing):
        check_pegged(world)
        check_standing(world, standing)
        self._opening = world
        self._start = standing
        self._world = world
        self._stones = standing
        self._deeds = []
        self._undone = []

    def _turn(self, deed):
        """Change world or standing as a deed says."""
        if deed[0] == "put":
            self._stones = changed(self._stones, deed[1], deed[3])
        elif deed[0] == "peg":
            self._world = with_pegs(self._world, (deed[1],))
        else:
            self._world = without_peg(self._world, deed[1])

    def _stand(self, deed):
        """Do a deed that nothing speaks against but how many stand; then there is nothing to redo."""
        if len(self._deeds) >= MOST_DEEDS:
            raise TooMany(MOST_DEEDS + 1)
        self._turn(deed)
        self._deeds.append(deed)
        self._undone = []

    def _traced(self):
        """The rows of the trace, and by how many steps each put made them longer."""
        puts = [(deed[1], deed[3]) for deed in self._deeds if deed[0] == "put"]
        return traced(self._opening.net, self._start, puts)

    def put(self, place, coat):
        """Do the deed (place, coat)."""
        done(self._world, self._stones, place, coat)
        self._stand(("put", place, self._stones[place], coat))

    def peg(self, place):
        """Make a place a peg."""
        check_place(self._world.net, place)
        if place in self._world.pegs:
            raise Pegged(place)
        self._stand(("peg", place))

    def unpeg(self, place):
        """Take a peg out."""
        check_place(self._world.net, place)
        if place not in self._world.pegs:
            raise NotPegged(place)
        if place == self._opening.base:
            raise Base(place)
        self._stand(("unpeg", place))

    def undo(self):
        """Take back the last deed that stands."""
        if len(self._deeds) == 0:
            raise NothingToUndo(0)
        deed = self._deeds.pop()
        self._turn(opposite(deed))
        self._undone.append(deed)

    def redo(self):
        """Do again the deed that was undone last."""
        if len(self._undone) == 0:
            raise NothingToRedo(0)
        deed = self._undone.pop()
        self._turn(deed)
        self._deeds.append(deed)

    def now(self):
        """The standing as it is."""
        return self._stones

    def world(self):
        """The world as it stands."""
        return self._world

    def record(self):
        """A row for each deed that stands, in order."""
        return tuple(self._deeds)

    def trace(self):
        """The trace of the puts that stand, from the standing of the opening on."""
        return self._traced()[0]

    def away(self):
        """Half the steps of the trace."""
        return sum(deeds_due(self.trace()))

    def home(self):
        """A least run back to the standing of the opening, in the world as it stands, or None."""
        return least_run(self._world, self._stones, self._start)

    def account(self):
        """How many puts stand, and how many of them made the trace longer, left its length, and made it shorter."""
        longer = self._traced()[1]
        return len(longer), longer.count(2), longer.count(0), longer.count(-2)
