"""How thick a lot lies: its weight and its grades."""

from rowwright.stacks import plain
from rowwright.things import common_divisor, lead_place, upright


def leads(lines):
    """The leads of a plain lot's rows."""
    return [line[lead_place(line)] for line in lines]


def weight(lot, wide):
    """How many different rests there are; None where there is no such number."""
    lines = plain(lot, wide)
    # A place without a lead leaves the rests there any number at all.
    if len(lines) < wide:
        return None
    many = 1
    for lead in leads(lines):
        many = many * lead
    return many


def has_lead_alone(line):
    """Whether a row has nothing but noughts behind its lead."""
    return all([number == 0 for number in line[lead_place(line) + 1:]])


def chained(numbers):
    """Numbers, each a divisor of the next, that are the grades of a lot whose leads stand alone and are those told."""
    links = list(numbers)
    many = len(numbers)
    for low in range(many):
        for high in range(low + 1, many):
            common = common_divisor(links[low], links[high])
            links[high] = links[low] // common * links[high]
            links[low] = common
    return tuple(links)


def grades(lot, wide):
    """The lot's grades, each a divisor of the next."""
    lines = plain(lot, wide)
    width = wide
    # Grades stay the same when a lot is made plain or set upright. By each turn the first lead that has others beside
    # it becomes a smaller divisor of what it was, or comes to stand alone for good: so at last all stand alone.
    while not all([has_lead_alone(line) for line in lines]):
        turned = upright(lines, width)
        width = len(lines)
        lines = plain(turned, width)
    return chained(leads(lines))
