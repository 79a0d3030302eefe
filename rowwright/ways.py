"""How rows are made of a lot, and why others are not."""

from rowwright.stacks import less, plain, rest, tagged
from rowwright.things import common_divisor, lead_place, product, unit


def how(lot, wide):
    """For each row of the plain lot, counts that make it of the lot."""
    lines = plain(tagged(lot), wide + len(lot))
    return tuple([line[wide:] for line in lines if lead_place(line) < wide])


def divisor_for(lines, place, number):
    """A lead at the place, if the plain lot has one there; else a whole number that doesn't divide the number."""
    for line in lines:
        if lead_place(line) == place:
            return line[place]
    return abs(number) + 1


def price_against(lines, wide, left):
    """A price that is whole at each row of a plain lot, and not whole at a row's rest that is not all noughts."""
    place = lead_place(left)
    numbers = unit(wide, place)
    divisor = divisor_for(lines, place, left[place])
    # Rows with leads further right have noughts here. Those with leads further left are made level to numbers, the
    # lowest first: at the places where numbers change for the others, it has noughts, and so has the rest.
    ahead = [line for line in lines if lead_place(line) < place]
    for line in reversed(ahead):
        lead = line[lead_place(line)]
        off = product(numbers, line)
        common = common_divisor(lead, off)
        raised = [number * (lead // common) for number in numbers]
        numbers = less(raised, off // common, unit(wide, lead_place(line)))
        divisor = divisor * (lead // common)
    return (numbers, divisor)


def made(lot, wide, row):
    """Counts that make the row, or a price that is whole at each row of the lot and not whole at this one."""
    # The noughts behind the row are lessened by just those counts whose sum is taken from the row.
    tagged_rest = rest(tagged(lot), wide + len(lot), row + (0,) * len(lot))
    left = tagged_rest[:wide]
    if lead_place(left) == wide:
        return ("made", tuple([-count for count in tagged_rest[wide:]]))
    return ("not", price_against(plain(lot, wide), wide, left))
