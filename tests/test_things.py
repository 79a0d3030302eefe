"""Promises 0.3, 0.4, 0.5, 1.1, 1.2 and 2.1."""

import unittest
from copy import deepcopy
from itertools import product as all_choices

from samples import LARGE, Numbers, WIDES, nested, odd_parts, odd_things, only_tuples_of_ints, plus
from rowwright.things import is_lot, is_plain, is_row, product, sum_of


class Case(unittest.TestCase):
    def yes(self, answer, told):
        self.assertIs(answer, True, told)

    def no(self, answer, told):
        self.assertIs(answer, False, told)


def some_rows(wide):
    return [
        (0,) * wide, (1,) * wide, (-1,) * wide, tuple(range(wide)), tuple(range(-wide, 0)),
        (LARGE,) * wide, (-LARGE,) + (0,) * (wide - 1), (0,) * (wide - 1) + (7,),
    ]


def with_part(row, place, part):
    return row[:place] + (part,) + row[place + 1:]


class Rows(Case):
    def test_rows_of_each_wide(self):
        for wide in WIDES:
            for row in some_rows(wide):
                self.yes(is_row(row, wide), (row, wide))

    def test_longer_and_shorter_rows(self):
        for wide in WIDES:
            for long in range(0, 12):
                if long != wide:
                    self.no(is_row((1,) * long, wide), (long, wide))

    def test_lists_are_no_rows(self):
        for wide in WIDES:
            for row in some_rows(wide):
                self.no(is_row(list(row), wide), (row, wide))

    def test_odd_parts_at_each_place(self):
        for wide in WIDES:
            for place in range(wide):
                for part in odd_parts():
                    thing = with_part((1,) * wide, place, part)
                    self.no(is_row(thing, wide), (thing, wide))

    def test_odd_things(self):
        for wide in WIDES:
            for thing in odd_things() + odd_parts()[:6] + ["a" * wide, "1" * wide, wide, ()]:
                self.no(is_row(thing, wide), (thing, wide))

    def test_a_lot_is_no_row(self):
        for wide in WIDES:
            self.no(is_row(((1,) * wide,) * wide, wide), wide)


class Lots(Case):
    def test_lots_of_each_wide_and_length(self):
        for wide in WIDES:
            self.yes(is_lot((), wide), wide)
            for rows in range(1, 9):
                self.yes(is_lot(tuple(some_rows(wide)[:rows]), wide), (rows, wide))
                self.yes(is_lot(((0,) * wide,) * rows, wide), (rows, wide))

    def test_nine_rows_and_more(self):
        for wide in WIDES:
            for rows in (9, 10, 20):
                self.no(is_lot(((1,) * wide,) * rows, wide), (rows, wide))

    def test_rows_of_another_wide(self):
        for wide in WIDES:
            for long in range(0, 12):
                if long != wide:
                    self.no(is_lot(((1,) * long,), wide), (long, wide))
                    self.no(is_lot(((1,) * wide, (1,) * long), wide), (long, wide))
                    self.no(is_lot(((1,) * long, (1,) * wide), wide), (long, wide))

    def test_lists_in_the_place_of_tuples(self):
        for wide in WIDES:
            row = (1,) * wide
            self.no(is_lot([], wide), wide)
            self.no(is_lot([row], wide), wide)
            self.no(is_lot([list(row)], wide), wide)
            for place in range(8):
                self.no(is_lot(with_part((row,) * 8, place, list(row)), wide), (place, wide))

    def test_odd_parts_in_rows(self):
        for wide in WIDES:
            row = (1,) * wide
            for place in range(wide):
                for part in odd_parts():
                    odd = with_part(row, place, part)
                    for thing in ((odd,), (row, odd), (odd, row), (row,) * 7 + (odd,)):
                        self.no(is_lot(thing, wide), (thing, wide))

    def test_odd_things(self):
        for wide in WIDES:
            row = (1,) * wide
            for thing in odd_things() + ["a" * wide, wide, row]:
                self.no(is_lot(thing, wide), (thing, wide))
            for thing in odd_things() + ["a" * wide, wide, ()]:
                self.no(is_lot((row, thing), wide), (thing, wide))
                self.no(is_lot((thing,), wide), (thing, wide))


def is_plain_of_two_places(lot):
    """All forms that a plain lot of wide 2 can have, written out."""
    if len(lot) == 0:
        return True
    if len(lot) == 1:
        return lot[0][0] > 0 or (lot[0][0] == 0 and lot[0][1] > 0)
    if len(lot) == 2:
        return lot[0][0] > 0 and lot[1][0] == 0 and 0 <= lot[0][1] < lot[1][1]
    return False


class PlainLots(Case):
    def test_plain_lots(self):
        lots = [
            (1, ((1,),)), (1, ((LARGE,),)), (2, ((2, 2), (0, 3))), (2, ((0, 5),)), (2, ((3, -7),)),
            (3, ((1, 0, 0), (0, 1, 0), (0, 0, 1))), (3, ((2, 9, 1), (0, 0, 2))), (3, ((2, 4, 3), (0, 5, -6))),
            (4, ((0, 3, 1, 0), (0, 0, 2, 4), (0, 0, 0, 5))), (4, ((5, -9, 0, 8), (0, 0, 1, -8))),
        ]
        for wide, lot in lots:
            self.yes(is_plain(lot, wide), lot)

    def test_each_wide(self):
        for wide in WIDES:
            ones = tuple([with_part((0,) * wide, place, 1) for place in range(wide)])
            self.yes(is_plain((), wide), wide)
            for rows in range(1, wide + 1):
                self.yes(is_plain(ones[:rows], wide), wide)
                self.yes(is_plain(ones[wide - rows:], wide), wide)
            if wide > 1:
                self.no(is_plain(tuple(reversed(ones)), wide), wide)
                self.no(is_plain(ones + ones[-1:], wide), wide)
                self.no(is_plain(ones[:1] + ones, wide), wide)

    def test_a_row_of_noughts(self):
        for wide in WIDES:
            self.no(is_plain(((0,) * wide,), wide), wide)
            self.no(is_plain(((1,) * wide, (0,) * wide), wide), wide)
            self.no(is_plain(((0,) * wide, (1,) * wide), wide), wide)
        self.no(is_plain(((1, 0, 0), (0, 0, 0), (0, 0, 1)), 3), "between")

    def test_a_lead_below_nought(self):
        for wide in WIDES:
            for place in range(wide):
                self.no(is_plain((with_part((0,) * wide, place, -1),), wide), (wide, place))
        self.no(is_plain(((1, 0), (0, -3)), 2), "second")
        self.no(is_plain(((-1, 0), (0, 3)), 2), "first")

    def test_leads_not_further_right(self):
        self.no(is_plain(((1, 0), (1, 1)), 2), "same place")
        self.no(is_plain(((0, 1), (1, 0)), 2), "further left")
        self.no(is_plain(((1, 0, 0), (0, 0, 1), (0, 1, 0)), 3), "further left, lower down")
        self.no(is_plain(((1, 0, 0), (0, 2, 1), (0, 1, 0)), 3), "same place, lower down")

    def test_numbers_above_a_lead(self):
        for number in range(-4, 8):
            self.assertIs(is_plain(((2, number), (0, 4)), 2), 0 <= number <= 3, number)
            first = ((1, 0, number), (0, 1, 0), (0, 0, 4))
            second = ((1, 0, 0), (0, 1, number), (0, 0, 4))
            upper = ((1, number, 0), (0, 4, 0), (0, 0, 1))
            for lot in (first, second, upper):
                self.assertIs(is_plain(lot, 3), 0 <= number <= 3, lot)

    def test_numbers_with_no_lead_below_are_free(self):
        for number in (-LARGE, -1, 0, 1, LARGE):
            self.yes(is_plain(((2, 0, number), (0, 4, number)), 3), number)
            self.yes(is_plain(((2, number, 0), (0, 0, 4)), 3), number)

    def test_all_small_lots_of_two_places(self):
        rows = list(all_choices(range(-2, 4), repeat=2))
        for long in (0, 1, 2):
            for lot in all_choices(rows, repeat=long):
                self.assertIs(is_plain(lot, 2), is_plain_of_two_places(lot), lot)

    def test_three_rows_of_two_places_are_never_plain(self):
        rows = list(all_choices(range(0, 3), repeat=2))
        for lot in all_choices(rows, repeat=3):
            self.no(is_plain(lot, 2), lot)

    def test_things_that_are_no_lots(self):
        for wide in WIDES:
            row = (1,) * wide
            for thing in odd_things() + [[row], (list(row),), "a" * wide, wide, (row,) * 9]:
                self.no(is_plain(thing, wide), (thing, wide))
                self.no(is_plain((thing,), wide), (thing, wide))
            self.no(is_plain(row, wide), wide)
            for part in odd_parts():
                for place in range(wide):
                    self.no(is_plain((with_part(row, place, part),), wide), (part, place, wide))
            self.no(is_plain(((1,) * (wide + 1),), wide), wide)
            self.no(is_plain(((1,) * (wide - 1),), wide), wide)


class Sums(Case):
    def test_ordinary_sums(self):
        self.assertEqual(sum_of((2, -1), ((1, 2, 3), (4, 0, -5)), 3), (-2, 4, 11))
        self.assertEqual(sum_of((0, 0), ((1, 2, 3), (4, 0, -5)), 3), (0, 0, 0))
        self.assertEqual(sum_of((1, 0, -3), ((1, 1), (5, 6), (2, -2)), 2), (-5, 7))
        self.assertEqual(sum_of((3,), ((-4,),), 1), (-12,))
        self.assertEqual(sum_of((1,) * 8, ((1, 2),) * 8, 2), (8, 16))

    def test_the_lot_without_rows(self):
        for wide in WIDES:
            self.assertEqual(sum_of((), (), wide), (0,) * wide)

    def test_large_numbers(self):
        self.assertEqual(sum_of((LARGE, -1), ((LARGE, 1), (1, LARGE)), 2), (10 ** 80 - 1, 0))
        self.assertEqual(sum_of((LARGE + 1, -LARGE), ((7,), (7,)), 1), (7,))

    def test_one_count_alone_picks_its_row(self):
        numbers = Numbers(1)
        for wide in WIDES:
            lot = numbers.lot(8, wide, 99)
            for place in range(8):
                self.assertEqual(sum_of(with_part((0,) * 8, place, 1), lot, wide), lot[place])
                self.assertEqual(sum_of(with_part((0,) * 8, place, -3), lot, wide), plus((0,) * wide, -3, lot[place]))

    def test_counts_added_make_rows_added(self):
        numbers = Numbers(2)
        for wide in WIDES:
            for rows in range(0, 9):
                for high in (3, LARGE):
                    lot = numbers.lot(rows, wide, high)
                    one = numbers.row(rows, high)
                    other = numbers.row(rows, high)
                    told = plus(sum_of(one, lot, wide), 1, sum_of(other, lot, wide))
                    self.assertEqual(sum_of(plus(one, 1, other), lot, wide), told)

    def test_a_tuple_of_whole_numbers(self):
        for counts, lot, wide in (((), (), 3), ((1, -2), ((1, 2), (3, 4)), 2), ((LARGE,), ((LARGE,),), 1)):
            made = sum_of(counts, lot, wide)
            self.assertTrue(only_tuples_of_ints(made))
            self.yes(is_row(made, wide), made)

    def test_products(self):
        self.assertEqual(product((1, 2, 3), (4, 0, -5)), -11)
        self.assertEqual(product((7,), (-6,)), -42)
        self.assertEqual(product((1, 1), (1, -1)), 0)
        self.assertEqual(product((LARGE, 1), (LARGE, -1)), 10 ** 80 - 1)
        self.assertEqual(product(tuple(range(8)), tuple(range(8))), 140)
        self.assertEqual(product((0,) * 8, (LARGE,) * 8), 0)
        self.assertIs(type(product((0,), (0,))), int)

    def test_product_is_a_sum_place_by_place(self):
        numbers = Numbers(3)
        for wide in WIDES:
            one = numbers.row(wide, LARGE)
            other = numbers.row(wide, 99)
            upright = tuple([(number,) for number in other])
            self.assertEqual((product(one, other),), sum_of(one, upright, 1))
            self.assertEqual(product(one, other), product(other, one))


class NothingIsChanged(Case):
    def test_things_are_as_they_were(self):
        for ask in (is_row, is_lot, is_plain):
            for thing in odd_things() + [(1, 2), ((1, 2), (0, 3)), [(1, 2)], ([1, 2],), nested([1, 2], tuple, 3)]:
                kept = deepcopy(thing)
                first = ask(thing, 2)
                self.assertEqual(repr(thing), repr(kept))
                self.assertIs(ask(thing, 2), first)
                self.assertIs(ask(kept, 2), first)

    def test_sums_are_the_same_again(self):
        counts = (2, -1)
        lot = ((1, 2, 3), (4, 0, -5))
        first = sum_of(counts, lot, 3)
        level = product(lot[0], lot[1])
        self.assertEqual(sum_of((1, 1), lot, 3), (5, 2, -2))
        self.assertEqual(sum_of((2, -1), ((1, 2, 3), (4, 0, -5)), 3), first)
        self.assertEqual(product((1, 2, 3), (4, 0, -5)), level)
        self.assertEqual((counts, lot), ((2, -1), ((1, 2, 3), (4, 0, -5))))


if __name__ == "__main__":
    unittest.main()
