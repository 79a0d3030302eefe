"""Promises 0.2 (f), 6.1 and 6.2."""

import unittest
from itertools import combinations, product as all_choices
from math import gcd, prod

from samples import (
    LARGE, Numbers, WIDES, chosen_sum, divisors, drawn_lots, is_made, lots_beyond, measure, ones, only_tuples_of_ints,
    plus, small_lots,
)
from rowwright.sizes import grades, weight
from rowwright.stacks import plain, rest


def classes(lot, wide, high):
    """How many rows with numbers from 0 to high there are of which no two lie apart by a made row."""
    found = []
    for row in all_choices(range(high + 1), repeat=wide):
        if not any([is_made(plus(row, -1, other), lot, wide) for other in found]):
            found = found + [row]
    return len(found)


def changed(numbers, lot):
    """A lot after one whole step: rows exchanged, one turned about, or a multiple of one added to another."""
    rows = list(lot)
    one = numbers.between(0, len(rows) - 1)
    other = numbers.between(0, len(rows) - 1)
    kind = numbers.between(0, 2)
    if kind == 0:
        rows[one] = lot[other]
        rows[other] = lot[one]
    elif kind == 1 or one == other:
        rows[one] = tuple([-number for number in lot[one]])
    else:
        rows[one] = plus(lot[one], numbers.between(-4, 4), lot[other])
    return tuple(rows)


class Weight(unittest.TestCase):
    def test_written_out(self):
        cases = [
            (((1,),), 1, 1), (((-6,),), 1, 6), (((4,), (6,)), 1, 2), (((0,),), 1, None), ((), 1, None), ((), 8, None),
            (((2, 1), (1, 2)), 2, 3), (((2, 2), (2, -2)), 2, 8), (((1, 2),), 2, None), (((1, 2), (2, 4)), 2, None),
            (((3, 0), (0, 4)), 2, 12), (((0, 1), (1, 0)), 2, 1), (((LARGE, 0), (0, LARGE)), 2, LARGE * LARGE),
            (((1, 2, 3), (4, 5, 6), (7, 8, 9)), 3, None), (((1, 2, 3), (4, 5, 6), (7, 8, 10)), 3, 3),
        ]
        for lot, wide, told in cases:
            self.assertEqual(weight(lot, wide), told, lot)

    def test_by_the_sums_over_rows_and_places(self):
        seen = {True: 0, False: 0}
        for lot, wide in drawn_lots() + lots_beyond():
            told = weight(lot, wide)
            free, divisor = measure(lot, wide)
            seen[free == wide] = seen[free == wide] + 1
            if free == wide:
                self.assertIs(type(told), int)
                self.assertEqual(told, divisor, lot)
            else:
                self.assertIs(told, None)
        self.assertGreater(min(seen.values()), 50)

    def test_as_many_as_there_are_rests(self):
        for lot in (((2, 1), (1, 2)), ((2, 2), (2, -2)), ((5, 2), (3, 1)), ((0, 3), (2, 0)), ((4, 2), (6, 2), (0, 2))):
            many = weight(lot, 2)
            self.assertEqual(classes(lot, 2, many), many, lot)
            self.assertEqual(len({rest(lot, 2, row) for row in all_choices(range(many + 1), repeat=2)}), many, lot)
        for lot in (((3,),), ((4,), (6,)), ((-5,), (0,))):
            self.assertEqual(classes(lot, 1, 12), weight(lot, 1), lot)

    def test_of_ones_and_multiples(self):
        for wide in WIDES:
            self.assertEqual(weight(ones(wide), wide), 1)
            tens = tuple([plus((0,) * wide, 9, one) for one in ones(wide)])
            self.assertEqual(weight(tens, wide), 9 ** wide)
            self.assertIs(weight(tens[1:], wide), None)


class Grades(unittest.TestCase):
    def check_form(self, told):
        self.assertIs(type(told), tuple)
        self.assertTrue(only_tuples_of_ints(told))
        for number, grade in enumerate(told):
            self.assertGreaterEqual(grade, 1)
            self.assertEqual(grade % told[max(0, number - 1)], 0, told)

    def test_written_out(self):
        cases = [
            ((), 3, ()), (((0, 0),), 2, ()), (((-6,),), 1, (6,)), (((4,), (6,)), 1, (2,)), (((4, 6), (8, 12)), 2, (2,)),
            (((4, 0), (0, 6)), 2, (2, 12)), (((2, 4, 4), (-6, 6, 12), (10, 4, 16)), 3, (2, 2, 156)),
            (((6, 10, 15),), 3, (1,)), (((2, 0), (0, 3)), 2, (1, 6)),
            (((6, 0, 0), (0, 10, 0), (0, 0, 15)), 3, (1, 30, 30)),
            (((1, 2, 3), (4, 5, 6), (7, 8, 9)), 3, (1, 3)), (((0, LARGE), (LARGE, 0)), 2, (LARGE, LARGE)),
            (((2, 1), (0, 2)), 2, (1, 4)), (((0, 0, 4), (0, 6, 0)), 3, (2, 12)),
        ]
        for lot, wide, told in cases:
            self.assertEqual(grades(lot, wide), told, lot)

    def test_by_the_sums_as_the_point_tells_them(self):
        numbers = Numbers(71)
        for rows, wide in all_choices(range(1, 5), repeat=2):
            for times in (1, 2, 6):
                lot = tuple([plus((0,) * wide, times ** (turn % 3), numbers.row(wide, 4)) for turn in range(rows)])
                told = grades(lot, wide)
                for size in range(1, min(rows, wide) + 1):
                    found = 0
                    for some in combinations(lot, size):
                        for places in combinations(range(wide), size):
                            found = gcd(found, chosen_sum([[row[place] for place in places] for row in some]))
                    self.assertEqual(found, prod(told[:size]) if size <= len(told) else 0, (lot, size))
                    self.assertEqual(found, dict(enumerate(divisors(lot, wide))).get(size, 0), (lot, size))

    def test_by_the_sums_of_all_lots(self):
        for lot, wide in drawn_lots() + lots_beyond():
            told = grades(lot, wide)
            self.check_form(told)
            self.assertEqual(tuple([prod(told[:size]) for size in range(len(told) + 1)]), divisors(lot, wide), lot)
            self.assertEqual(len(told), len(plain(lot, wide)), lot)

    def test_by_the_sums_of_lots_with_many_grades(self):
        numbers = Numbers(72)
        for wide in WIDES:
            for rows in range(1, 9):
                sizes = [numbers.between(1, 6) * numbers.between(1, 6) for place in range(min(rows, wide))]
                lot = tuple([plus((0,) * wide, size, one) for size, one in zip(sizes, ones(wide))])
                lot = lot + ((0,) * wide,) * (rows - len(lot))
                for step in range(30):
                    lot = changed(numbers, lot)
                    lot = tuple(zip(*changed(numbers, tuple(zip(*lot)))))
                told = grades(lot, wide)
                self.check_form(told)
                self.assertEqual(tuple([prod(told[:size]) for size in range(len(told) + 1)]), divisors(lot, wide), lot)

    def test_the_same_whatever_steps_change_rows_or_places(self):
        numbers = Numbers(73)
        for lot, wide in drawn_lots():
            if len(lot) > 0:
                told = grades(lot, wide)
                by_rows = lot
                by_both = lot
                for step in range(6):
                    by_rows = changed(numbers, by_rows)
                    by_both = tuple(zip(*changed(numbers, tuple(zip(*changed(numbers, by_both))))))
                self.assertEqual(grades(by_rows, wide), told, (lot, by_rows))
                self.assertEqual(grades(by_both, wide), told, (lot, by_both))
                self.assertEqual(grades(tuple(zip(*lot)), len(lot)), told, lot)

    def test_their_product_is_the_weight(self):
        for lot, wide in small_lots():
            told = weight(lot, wide)
            if told is not None:
                self.assertEqual(prod(grades(lot, wide)), told, lot)

    def test_of_no_rows_and_noughts(self):
        for wide in WIDES:
            for rows in range(0, 9):
                self.assertEqual(grades(((0,) * wide,) * rows, wide), ())
            self.assertEqual(grades(ones(wide), wide), (1,) * wide)


if __name__ == "__main__":
    unittest.main()
