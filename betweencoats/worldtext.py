"""Texts of worlds."""

from betweencoats.errors import BadText
from betweencoats.nets import made_net
from betweencoats.rowtext import is_number_word
from betweencoats.tables import made_table
from betweencoats.worlds import made_world

# Which rows may stand behind a row; behind "" stands the first one.
FOLLOWERS = {
    "": ("coat",), "coat": ("coat", "net"), "net": ("thread", "pegs"), "thread": ("thread", "pegs"), "pegs": ()
}
# How many numbers a row has; the others have as many as they like.
NUMBERS = {"net": 1, "thread": 2}


def words(name, numbers):
    """The row of a name and some numbers."""
    return " ".join([name] + [str(number) for number in numbers])


def text_of_world(world):
    """The text of a world."""
    coats = [words("coat", roads) for roads in world.table.beside]
    threads = [words("thread", thread) for thread in world.net.threads]
    return "\n".join(coats + [words("net", (world.net.many,))] + threads + [words("pegs", world.pegs)])


def read_row(row, before):
    """The name and the numbers of a row behind a row of the name before; None if it may not stand there."""
    parts = row.split(" ")
    name = parts[0]
    numbers = parts[1:]
    if name not in FOLLOWERS[before] or not all([is_number_word(word) for word in numbers]):
        return None
    if len(numbers) != NUMBERS.get(name, len(numbers)):
        return None
    return name, tuple([int(word) for word in numbers])


def read_rows(text):
    """The rows of a text of a world, each as its name and its numbers."""
    rows = []
    before = ""
    lines = text.split("\n")
    for at, row in enumerate(lines):
        found = read_row(row, before)
        if found is None:
            raise BadText(at)
        rows.append(found)
        before = found[0]
    if before != "pegs":
        raise BadText(len(rows))
    return rows


def world_of(text):
    """The world of a text."""
    rows = read_rows(text)
    table = made_table(tuple([numbers for name, numbers in rows if name == "coat"]))
    many = [numbers[0] for name, numbers in rows if name == "net"][0]
    net = made_net(many, tuple([numbers for name, numbers in rows if name == "thread"]))
    return made_world(table, net, pegs=rows[-1][1])
