"""What several tests draw on: numbers that come the same each time, odd things, and an oracle of its own."""

from functools import lru_cache
from itertools import combinations, permutations
from math import gcd, prod

WIDES = range(1, 9)
LARGE = 10 ** 40


class Numbers:
    """Numbers that look mixed and come the same each time, under every Python."""

    def __init__(self, seed):
        self.state = seed

    def between(self, low, high):
        span = high - low + 1
        drawn = 0
        # Twice as many bits as the span has: then no number is much likelier than another.
        while drawn < span * span:
            self.state = (self.state * 6364136223846793005 + 1442695040888963407) % 2 ** 64
            drawn = drawn * 2 ** 32 + (self.state >> 32) + 1
        return low + drawn % span

    def row(self, wide, high):
        return tuple([self.between(-high, high) for place in range(wide)])

    def lot(self, rows, wide, high):
        return tuple([self.row(wide, high) for number in range(rows)])


def nested(core, kind, deep):
    thing = core
    for level in range(deep):
        thing = kind([thing])
    return thing


def odd_parts():
    """What stands in the place of a whole number, and is none."""
    return [True, False, None, "", "1", "one", (), (1,), (0, 0), [], [1], ((1,),), [[1]], nested(1, tuple, 30)]


def odd_things():
    """What is neither a row nor a lot, however wide."""
    mixed = 0
    for level in range(15):
        mixed = ([mixed],)
    things = [0, 1, -1, 8, LARGE, True, False, None, "", "a", "1", "12", "()", "(1,)", "((1,),)", "12345678"]
    things = things + [[], [1], [[1]], [()], [(1,)], [(1, 2), (3, 4)], [True], [None], ["1"]]
    things = things + [(True,), (False,), (None,), ("",), ("1",), ([],), ([1],), ([1, 2],), ((),), (((),),)]
    things = things + [(((1,),),), ((True,),), ((False, 0),), ((None,),), (("1",),), (([1],),), (1, True), (0, None)]
    for deep in (29, 30, 31, 35):
        things = things + [nested(1, tuple, deep), nested(1, list, deep), nested((), tuple, deep), nested([], list, deep)]
    return things + [mixed, (mixed,), ((mixed,),), nested("deep", tuple, 30), nested(True, list, 30)]


def plus(row, times, other):
    return tuple([number + times * more for number, more in zip(row, other)])


def added(counts, lot, wide):
    """The row that counts make, reckoned place by place."""
    return tuple([sum([count * row[place] for count, row in zip(counts, lot)]) for place in range(wide)])


def level(one, other):
    """The product of two rows."""
    return sum([one[place] * other[place] for place in range(len(one))])


def ones(wide):
    """The rows that have one 1 each, at each place in turn."""
    return tuple([tuple([int(place == here) for place in range(wide)]) for here in range(wide)])


def chosen_sum(square):
    """As 6.2 tells it: over all ways to choose a place for each row, none twice, the chosen numbers multiplied."""
    total = 0
    for places in permutations(range(len(square))):
        crosswise = len([pair for pair in combinations(places, 2) if pair[0] > pair[1]])
        total = total + (-1) ** crosswise * prod([row[place] for row, place in zip(square, places)])
    return total


def with_one_row_more(row, sums):
    """Of the sums of some rows, by their places, those with a row more below, by the choices for this row."""
    found = {}
    for places, value in sums.items():
        if value != 0:
            for place, number in enumerate(row):
                if number != 0 and place not in places:
                    more = tuple(sorted(places + (place,)))
                    # The row below crosses each row above that has chosen a place further right.
                    sign = (-1) ** (len(places) - more.index(place))
                    found[more] = found.get(more, 0) + sign * number * value
    return found


@lru_cache(maxsize=100)
def sums_by_size(lot):
    """For 0, 1, .. rows the sums of each choice of so many rows and places, as far as not all are 0."""
    found = [{(): {(): 1}}]
    while True:
        deeper = {}
        for rows, sums in found[-1].items():
            for number in range(max(rows, default=-1) + 1, len(lot)):
                deeper[rows + (number,)] = with_one_row_more(lot[number], sums)
        if common(deeper.values()) == 0:
            return found
        found = found + [deeper]


def common(tables):
    """The common divisor of all numbers in some tables."""
    return gcd(*[value for sums in tables for value in sums.values()])


@lru_cache(maxsize=10000)
def divisors(lot, wide):
    """For 0, 1, .. rows the common divisor of all sums of so many rows and places, as far as it is not 0."""
    return tuple([common(tables.values()) for tables in sums_by_size(lot)])


def measure(lot, wide):
    """How many rows stand free of one another, and the common divisor of the sums of so many."""
    found = divisors(lot, wide)
    return (len(found) - 1, found[-1])


def is_filled(lot, wide):
    """Whether the rows stand free of one another, and each row is made of which some multiple is."""
    return measure(lot, wide) == (len(lot), 1)


def is_made(row, lot, wide):
    """Whether neither measure of a lot changes when the row is put to it."""
    found = sums_by_size(lot)
    if common([with_one_row_more(row, sums) for sums in found[-1].values()]) != 0:
        return False
    # Sums of as many rows as stand free, with this row among them.
    new = common([with_one_row_more(row, sums) for tables in found[-2:-1] for sums in tables.values()])
    return new % measure(lot, wide)[1] == 0


def make_same(one, other, wide):
    """Whether two lots make the same rows: each makes the rows of the other."""
    return all(is_made(row, other, wide) for row in one) and all(is_made(row, one, wide) for row in other)


def only_tuples_of_ints(thing):
    """Whether a thing is built of tuples and whole numbers alone."""
    if type(thing) is tuple:
        return all([only_tuples_of_ints(part) for part in thing])
    return type(thing) is int


def looks_plain(lot, wide):
    """Whether a thing is built of tuples and whole numbers, and its rows stand as 2.1 tells."""
    if type(lot) is not tuple or not only_tuples_of_ints(lot):
        return False
    ahead = -1
    for number, row in enumerate(lot):
        busy = [place for place in range(wide) if row[place] != 0]
        if len(row) != wide or len(busy) == 0 or busy[0] <= ahead or row[busy[0]] < 0:
            return False
        ahead = busy[0]
        if not all([0 <= upper[ahead] < row[ahead] for upper in lot[:number]]):
            return False
    return True


def small_lots():
    """Lots of all wides and lengths, among them such with noughts and rows that others make."""
    numbers = Numbers(11)
    lots = []
    for wide in WIDES:
        for rows in range(0, 9):
            lot = numbers.lot(rows, wide, 4)
            few = numbers.lot(rows // 2, wide, 3)
            mixed = tuple([added(numbers.row(len(few), 3), few, wide) for number in range(rows)])
            lots = lots + [(lot, wide), (few + mixed[len(few):], wide), (mixed, wide)]
    return lots


def large_lots():
    numbers = Numbers(12)
    lots = []
    for wide in WIDES:
        for rows in (1, 3, 8):
            lots = lots + [(numbers.lot(rows, wide, LARGE), wide)]
    return lots


def sparse_lots():
    """Lots with many noughts, rows of noughts, rows that stand twice or turned about, and multiples."""
    numbers = Numbers(17)
    lots = []
    for wide in WIDES:
        noughts = (0,) * wide
        row = numbers.row(wide, 9)
        lots = lots + [((noughts,) * rows, wide) for rows in (1, 2, 8)]
        lots = lots + [((noughts, row, noughts), wide), ((row, row), wide), ((row, plus(noughts, -1, row)), wide)]
        lots = lots + [((plus(noughts, 6, row), plus(noughts, -10, row), plus(noughts, 15, row)), wide)]
        lots = lots + [((plus(noughts, 4, row), plus(noughts, LARGE, row)), wide)]
        lots = lots + [(ones(wide), wide), (tuple([plus(noughts, 2 * wide, one) for one in ones(wide)]), wide)]
        for rows in (2, 5, 8):
            thin = [tuple([number * (number % 3 == 0) for number in numbers.row(wide, 12)]) for turn in range(rows)]
            lots = lots + [(tuple(thin), wide)]
    return lots


def drawn_lots():
    """All lots of the three kinds."""
    return small_lots() + large_lots() + sparse_lots()


def lots_beyond():
    """Lots that lie somewhat beyond the document's bounds: wider, or of more rows."""
    numbers = Numbers(18)
    lots = [((), 9), ((), 11)]
    for rows, wide in ((9, 2), (11, 4), (12, 1), (3, 9), (2, 12), (9, 9), (10, 9)):
        lot = numbers.lot(rows - 1, wide, 3)
        lots = lots + [(lot + (added(numbers.row(rows - 1, 2), lot, wide),), wide)]
    return lots
