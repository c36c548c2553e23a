"""Even lots: which coats rows of an even number of steps lead to."""


def even_lots(table):
    """For each coat the least coat at the end of a row of even steps that begins with it."""
    return tuple([min(even_ends(table, coat)) for coat in range(table.many)])


def same_lot(table, p, q):
    """Whether a row of even steps leads from the coat p to the coat q."""
    lots = even_lots(table)
    return lots[p] == lots[q]


def even_ends(table, start):
    """The coats at the ends of the rows of even steps that begin with a coat."""
    ends = [start]
    at = 0
    while at < len(ends):
        roads = table.beside[ends[at]]
        for end in [coat for road in roads for coat in table.beside[road]]:
            if end not in ends:
                ends.append(end)
        at += 1
    return ends
