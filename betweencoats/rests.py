"""Rests of rows: what is left when nothing can be struck any more."""

from betweencoats.errors import BadCoat, BadSize

MOST_STONES = 200
LAST_COAT = 7


def check_row(row):
    """Refuse a row that has not 1 to 200 stones, or stones that are no coats."""
    if not 1 <= len(row) <= MOST_STONES:
        raise BadSize(len(row))
    for at, coat in enumerate(row):
        if not 0 <= coat <= LAST_COAT:
            raise BadCoat(at)


def struck(stones):
    """The rest of a row of any length."""
    left = []
    for coat in stones:
        if len(left) > 1 and left[-2] == coat:
            left.pop()
        else:
            left.append(coat)
    return tuple(left)


def bends(stones):
    """The turns of a row of any length."""
    return tuple([at for at in range(1, len(stones) - 1) if stones[at - 1] == stones[at + 1]])


def rest(row):
    """What is left of a row when nothing can be struck any more."""
    check_row(row)
    return struck(row)


def is_straight(row):
    """Whether nothing can be struck in a row."""
    check_row(row)
    return bends(row) == ()


def strikes(row):
    """How often is struck in a row."""
    check_row(row)
    return (len(row) - len(struck(row))) // 2


def turns(row):
    """The inner indices of a row whose two neighbours are the same coat, ascending."""
    check_row(row)
    return bends(row)


def back(row):
    """A row in reversed order."""
    check_row(row)
    return row[::-1]
