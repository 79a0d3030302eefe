"""Plain lots, and what is left of a row when all that a lot makes is taken from it."""

from rowwright.things import lead_place, unit


def less(row, times, other):
    """A row, less so many times another."""
    return tuple([number - times * part for number, part in zip(row, other)])


def lowered(row, line, place):
    """A row less that multiple of line which leaves, at the place, what a division by line's number there leaves."""
    return less(row, row[place] // line[place], line)


def gathered(rows, place):
    """Rows that make the same as those told, with a number other than 0 at the place in the first alone, if in any."""
    clear = [row for row in rows if row[place] == 0]
    busy = [row for row in rows if row[place] != 0]
    while len(busy) > 1:
        # Dividing by the least number keeps what is left, and so the numbers further right, small.
        busy = sorted(busy, key=lambda row: abs(row[place]))
        left = [lowered(row, busy[0], place) for row in busy[1:]]
        clear = clear + [row for row in left if row[place] == 0]
        busy = [busy[0]] + [row for row in left if row[place] != 0]
    return busy + clear


def stacked(stack, row, place):
    """A stack of rows with one more below, which has its lead at the place and bounds there the rows ahead."""
    line = row
    if row[place] < 0:
        line = tuple([-number for number in row])
    return [lowered(ahead, line, place) for ahead in stack] + [line]


def plain(lot, wide):
    """The plain lot of which the same rows are made as of the lot."""
    stack = []
    rows = list(lot)
    for place in range(wide):
        rows = gathered(rows, place)
        if len(rows) > 0 and rows[0][place] != 0:
            stack = stacked(stack, rows[0], place)
            rows = rows[1:]
    return tuple(stack)


def rest(lot, wide, row):
    """The row apart from row by one that is made of the lot, with a number below each lead at the lead's place."""
    left = row
    # From the top down: a row further down has noughts at the places of the leads above it.
    for line in plain(lot, wide):
        left = lowered(left, line, lead_place(line))
    return left


def tagged(lot):
    """The rows of a lot, each with counts behind it that make it."""
    # Whatever is done to tagged rows is done to the counts too: they go on making what stands ahead of them.
    return tuple([row + unit(len(lot), number) for number, row in enumerate(lot)])


def behind(lot, wide, more):
    """The plain lot of what stands behind the first wide places, in those rows made of the lot with noughts at them."""
    # In a plain lot it is the rows with leads further right that make these, and they stay plain when cut.
    return tuple([line[wide:] for line in plain(lot, wide + more) if lead_place(line) >= wide])
