"""What several tests draw on: numbers that come the same each time, odd things, and an oracle of its own."""

from itertools import combinations
from math import gcd

WIDES = range(1, 9)
LARGE = 10 ** 40


class Numbers:
    """Numbers that look mixed and come the same each time, under every Python."""

    def __init__(self, seed):
        self.state = seed

    def between(self, low, high):
        span = high - low + 1
        drawn = 0
        # Twice as many bits as the span has: then no number is much likelier than another.
        while drawn < span * span:
            self.state = (self.state * 6364136223846793005 + 1442695040888963407) % 2 ** 64
            drawn = drawn * 2 ** 32 + (self.state >> 32) + 1
        return low + drawn % span

    def row(self, wide, high):
        return tuple([self.between(-high, high) for place in range(wide)])

    def lot(self, rows, wide, high):
        return tuple([self.row(wide, high) for number in range(rows)])


def nested(core, kind, deep):
    thing = core
    for level in range(deep):
        thing = kind([thing])
    return thing


def odd_parts():
    """What stands in the place of a whole number, and is none."""
    return [True, False, None, "", "1", "one", (), (1,), (0, 0), [], [1], ((1,),), [[1]], nested(1, tuple, 30)]


def odd_things():
    """What is neither a row nor a lot, however wide."""
    mixed = 0
    for level in range(15):
        mixed = ([mixed],)
    things = [0, 1, -1, 8, LARGE, True, False, None, "", "a", "1", "12", "()", "(1,)", "((1,),)", "12345678"]
    things = things + [[], [1], [[1]], [()], [(1,)], [(1, 2), (3, 4)], [True], [None], ["1"]]
    things = things + [(True,), (False,), (None,), ("",), ("1",), ([],), ([1],), ([1, 2],), ((),), (((),),)]
    things = things + [(((1,),),), ((True,),), ((False, 0),), ((None,),), (("1",),), (([1],),), (1, True), (0, None)]
    for deep in (29, 30, 31, 35):
        things = things + [nested(1, tuple, deep), nested(1, list, deep), nested((), tuple, deep), nested([], list, deep)]
    return things + [mixed, (mixed,), ((mixed,),), nested("deep", tuple, 30), nested(True, list, 30)]


def plus(row, times, other):
    return tuple([number + times * more for number, more in zip(row, other)])


def determinant(square):
    """By the first row, so that it shares nothing with the program's own steps."""
    if len(square) == 0:
        return 1
    total = 0
    for place, number in enumerate(square[0]):
        if number != 0:
            smaller = [row[:place] + row[place + 1:] for row in square[1:]]
            total = total + (-1) ** place * number * determinant(smaller)
    return total


def divisor_at(lot, wide, size):
    """The greatest common divisor of all determinants of so many rows and places."""
    found = 0
    for rows in combinations(lot, size):
        for places in combinations(range(wide), size):
            found = gcd(found, determinant([tuple([row[place] for place in places]) for row in rows]))
    return found


def measure(lot, wide):
    """How many rows stand free of one another, and the common divisor of their determinants."""
    for size in range(min(len(lot), wide), 0, -1):
        found = divisor_at(lot, wide, size)
        if found != 0:
            return (size, found)
    return (0, 1)


def make_same(one, other, wide):
    """Whether two lots make the same rows: neither measure changes when both are put together."""
    both = measure(one + other, wide)
    return measure(one, wide) == both and measure(other, wide) == both


def is_made(row, lot, wide):
    return measure(lot + (row,), wide) == measure(lot, wide)


def only_tuples_of_ints(thing):
    """Whether a thing is built of tuples and whole numbers alone."""
    if type(thing) is tuple:
        return all([only_tuples_of_ints(part) for part in thing])
    return type(thing) is int
