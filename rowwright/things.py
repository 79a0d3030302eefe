"""What rows, lots and plain lots are, the sums that counts make, and other steps that all files draw on."""

MOST_ROWS = 8


def is_whole(thing):
    """Whether a thing is a whole number."""
    # Python counts truths among the ints; the document does not.
    return isinstance(thing, int) and not isinstance(thing, bool)


def is_row(thing, wide):
    """Whether a thing is a row, so wide."""
    return isinstance(thing, tuple) and len(thing) == wide and all([is_whole(part) for part in thing])


def is_lot(thing, wide):
    """Whether a thing is a lot of rows, each so wide."""
    return isinstance(thing, tuple) and len(thing) <= MOST_ROWS and all([is_row(part, wide) for part in thing])


def lead_place(row):
    """The place of a row's lead; behind the last place, if the row is all noughts."""
    place = 0
    while place < len(row) and row[place] == 0:
        place = place + 1
    return place


def leads_step_right(lot):
    """Whether each row has a lead above 0, further right than that of the row ahead."""
    ahead = -1
    for row in lot:
        place = lead_place(row)
        if place == len(row) or place <= ahead or row[place] < 0:
            return False
        ahead = place
    return True


def leads_bound_rows_ahead(lot):
    """Whether the rows ahead of each lead have numbers from 0 to 1 less than it at its place."""
    for number in range(len(lot)):
        place = lead_place(lot[number])
        lead = lot[number][place]
        if not all([0 <= row[place] < lead for row in lot[:number]]):
            return False
    return True


def is_plain(thing, wide):
    """Whether a thing is a plain lot of rows, each so wide."""
    # The order matters: only a lot can be asked for leads, and only where each row has one can they bound others.
    return is_lot(thing, wide) and leads_step_right(thing) and leads_bound_rows_ahead(thing)


def unit(wide, place):
    """The row with 1 at the place and noughts else."""
    return (0,) * place + (1,) + (0,) * (wide - place - 1)


def column(lot, place):
    """What the rows of a lot have at the place, as a row."""
    return tuple([row[place] for row in lot])


def upright(lot, wide):
    """The lot that has a row for each place of the lot told, and a place for each of its rows."""
    return tuple([column(lot, place) for place in range(wide)])


def common_divisor(one, other):
    """The greatest common divisor of two whole numbers; 0 if both are 0."""
    great = abs(one)
    small = abs(other)
    while small != 0:
        left = great % small
        great = small
        small = left
    return great


def product(one, other):
    """The sum of what two rows have at each place, multiplied."""
    return sum([left * right for left, right in zip(one, other)])


def sum_of(counts, lot, wide):
    """The row that counts make of a lot."""
    made = [0] * wide
    for times, row in zip(counts, lot):
        made = [so_far + times * number for so_far, number in zip(made, row)]
    return tuple(made)
