"""Promises 0.2 (a) and (c), 0.3, 2.2 and 2.3."""

import unittest
from itertools import product as all_choices

from samples import (
    LARGE, Numbers, WIDES, drawn_lots, is_made, lots_beyond, make_same, only_tuples_of_ints, plus, small_lots,
)
from rowwright.stacks import plain, rest
from rowwright.things import is_plain, sum_of


def other_lots_that_make_the_same(numbers, lot, wide):
    """The lot with two rows exchanged, one turned about, a multiple of one added to another, a made row put in."""
    rows = len(lot)
    one = numbers.between(0, rows - 1)
    other = (one + numbers.between(1, rows - 1)) % rows if rows > 1 else one
    made = sum_of(numbers.row(rows, 5), lot, wide)
    others = [
        tuple(reversed(lot)),
        lot[:one] + (plus((0,) * wide, -1, lot[one]),) + lot[one + 1:],
        lot[:one] + (made,) + lot[one:],
        lot + (made,),
        lot + ((0,) * wide,),
        lot + (lot[one],),
    ]
    if one != other:
        exchanged = list(lot)
        exchanged[one] = lot[other]
        exchanged[other] = lot[one]
        added = list(lot)
        added[one] = plus(lot[one], numbers.between(-9, 9), lot[other])
        others = others + [tuple(exchanged), tuple(added)]
    return others


def made_in_box(lot):
    """What a lot of two small rows of two places makes, as far as it lies from -4 to 4."""
    found = {}
    for counts in all_choices(range(-16, 17), repeat=2):
        row = sum_of(counts, lot, 2)
        if max(abs(row[0]), abs(row[1])) <= 4:
            found[row] = True
    return tuple(sorted(found))


def leads(lot):
    """The place and the number of each row's lead."""
    return [[(place, number) for place, number in enumerate(row) if number != 0][0] for row in lot]


class PlainLot(unittest.TestCase):
    def test_written_out(self):
        cases = [
            ((), 1, ()), ((), 8, ()), (((4,), (6,)), 1, ((2,),)), (((0,),), 1, ()), (((-5,),), 1, ((5,),)),
            (((0, 0), (0, 0)), 2, ()), (((0, -3),), 2, ((0, 3),)), (((-2, 7), (0, 3)), 2, ((2, 2), (0, 3))),
            (((2, 4), (3, 5)), 2, ((1, 1), (0, 2))), (((-1, 9),), 2, ((1, -9),)),
            (((2, 0), (0, 2), (1, 1)), 2, ((1, 1), (0, 2))), (((6, 9), (4, 6)), 2, ((2, 3),)),
            (((6,), (10,), (15,)), 1, ((1,),)), (((0, 6, 4), (0, 0, 0), (0, 4, 4)), 3, ((0, 2, 0), (0, 0, 4))),
            (((1, 2, 3), (4, 5, 6), (7, 8, 9)), 3, ((1, 2, 3), (0, 3, 6))),
            (((3, 3, 1, 4), (0, 1, 0, 0), (0, 0, 19, 16), (0, 0, 0, 3)), 4,
             ((3, 0, 1, 1), (0, 1, 0, 0), (0, 0, 19, 1), (0, 0, 0, 3))),
        ]
        for lot, wide, told in cases:
            self.assertEqual(plain(lot, wide), told, lot)

    def test_of_no_rows_and_noughts(self):
        for wide in WIDES:
            for rows in range(0, 9):
                self.assertEqual(plain(((0,) * wide,) * rows, wide), ())

    def test_it_is_plain(self):
        for lot, wide in drawn_lots():
            told = plain(lot, wide)
            self.assertTrue(is_plain(told, wide), lot)
            self.assertTrue(only_tuples_of_ints(told), lot)

    def test_of_a_plain_lot_it_is_itself(self):
        for lot, wide in drawn_lots():
            told = plain(lot, wide)
            self.assertEqual(plain(told, wide), told)
        self.assertEqual(plain(((5, -9, 0, 8), (0, 0, 1, -8)), 4), ((5, -9, 0, 8), (0, 0, 1, -8)))

    def test_the_same_rows_are_made(self):
        for lot, wide in drawn_lots() + lots_beyond():
            self.assertTrue(make_same(lot, plain(lot, wide), wide), lot)

    def test_it_stays_the_same(self):
        numbers = Numbers(14)
        for lot, wide in drawn_lots():
            if len(lot) > 0:
                for other in other_lots_that_make_the_same(numbers, lot, wide):
                    self.assertEqual(plain(other, wide), plain(lot, wide), (lot, other))

    def test_many_steps_lead_back_to_it(self):
        numbers = Numbers(15)
        for wide in WIDES:
            told = plain(numbers.lot(wide, wide, 9), wide)
            lot = told
            for step in range(12):
                if len(lot) > 0:
                    steps = [one for one in other_lots_that_make_the_same(numbers, lot, wide) if len(one) <= 8]
                    lot = steps[numbers.between(0, len(steps) - 1)]
            self.assertEqual(plain(lot, wide), told, lot)

    def test_same_plain_lot_just_if_the_same_is_made(self):
        rows = list(all_choices(range(-2, 3), repeat=2))
        plain_of_box = {}
        box_of_plain = {}
        for lot in all_choices(rows, repeat=2):
            box = made_in_box(lot)
            told = plain(lot, 2)
            self.assertEqual(plain_of_box.setdefault(box, told), told, lot)
            self.assertEqual(box_of_plain.setdefault(told, box), box, lot)
        self.assertGreater(len(plain_of_box), 20)

    def test_a_row_that_is_not_made_changes_it(self):
        numbers = Numbers(16)
        for lot, wide in small_lots():
            row = numbers.row(wide, 4)
            if wide <= 3:
                same = plain(lot + (row,), wide) == plain(lot, wide)
                self.assertEqual(same, is_made(row, lot, wide), (lot, row))


class Rest(unittest.TestCase):
    def test_written_out(self):
        cases = [
            (((2, 4), (3, 5)), 2, (5, 4), (0, 1)), (((4,), (6,)), 1, (7,), (1,)), (((4,), (6,)), 1, (-7,), (1,)),
            (((4,), (6,)), 1, (-8,), (0,)), (((3, 3),), 2, (7, 1), (1, -5)), (((3, 3),), 2, (-1, 1), (2, 4)),
            (((0, 5),), 2, (-9, -9), (-9, 1)), (((2, 2), (0, 3)), 2, (-1, 0), (1, 2)),
            (((0, 0, 0),), 3, (4, -5, 6), (4, -5, 6)), (((2, 0, 1), (0, 0, 3)), 3, (5, -7, 1), (1, -7, 2)),
        ]
        for lot, wide, row, told in cases:
            self.assertEqual(rest(lot, wide, row), told, (lot, row))

    def test_of_the_lot_without_rows(self):
        numbers = Numbers(21)
        for wide in WIDES:
            for row in ((0,) * wide, numbers.row(wide, 9), numbers.row(wide, LARGE)):
                self.assertEqual(rest((), wide, row), row)

    def test_of_made_rows_it_is_noughts(self):
        numbers = Numbers(22)
        for lot, wide in drawn_lots():
            self.assertEqual(rest(lot, wide, (0,) * wide), (0,) * wide)
            for row in lot:
                self.assertEqual(rest(lot, wide, row), (0,) * wide, lot)
            for high in (3, LARGE):
                made = sum_of(numbers.row(len(lot), high), lot, wide)
                self.assertEqual(rest(lot, wide, made), (0,) * wide, lot)

    def test_of_other_rows_it_is_not_noughts(self):
        numbers = Numbers(23)
        seen = {True: 0, False: 0}
        for lot, wide in small_lots():
            if wide <= 3:
                for turn in range(4):
                    row = numbers.row(wide, 3)
                    made = is_made(row, lot, wide)
                    seen[made] = seen[made] + 1
                    self.assertEqual(rest(lot, wide, row) == (0,) * wide, made, (lot, row))
        self.assertGreater(min(seen.values()), 20)

    def test_numbers_at_the_leads(self):
        numbers = Numbers(24)
        for lot, wide in drawn_lots():
            for high in (5, LARGE):
                told = rest(lot, wide, numbers.row(wide, high))
                self.assertTrue(only_tuples_of_ints(told))
                self.assertEqual(len(told), wide)
                for place, lead in leads(plain(lot, wide)):
                    self.assertTrue(0 <= told[place] < lead, (lot, told))

    def test_it_lies_apart_by_a_made_row(self):
        numbers = Numbers(25)
        for lot, wide in drawn_lots():
            row = numbers.row(wide, 9)
            apart = plus(row, -1, rest(lot, wide, row))
            self.assertTrue(is_made(apart, lot, wide), (lot, row))

    def test_the_same_with_a_made_row_added(self):
        numbers = Numbers(26)
        for lot, wide in drawn_lots():
            row = numbers.row(wide, 50)
            told = rest(lot, wide, row)
            for high in (1, 9, LARGE):
                made = sum_of(numbers.row(len(lot), high), lot, wide)
                self.assertEqual(rest(lot, wide, plus(row, 1, made)), told, (lot, row))
                self.assertEqual(rest(lot, wide, plus(row, -1, made)), told, (lot, row))
            self.assertEqual(rest(lot, wide, told), told)

    def test_the_same_for_lots_that_make_the_same(self):
        numbers = Numbers(27)
        for lot, wide in small_lots():
            row = numbers.row(wide, 50)
            self.assertEqual(rest(plain(lot, wide), wide, row), rest(lot, wide, row))
            self.assertEqual(rest(tuple(reversed(lot)), wide, row), rest(lot, wide, row))

    def test_same_rest_just_if_apart_by_a_made_row(self):
        rows = list(all_choices(range(-2, 3), repeat=2))
        for lot in (((2, 1), (1, 2)), ((2, 2), (2, -2)), ((2, -1), (0, 0)), ((0, 2), (0, 0)), ((0, 0), (0, 0)),
                    ((1, 2), (-2, 1)), ((1, 1), (2, 2)), ((-1, 0), (0, -1)), ((-2, 0), (1, 0))):
            box = made_in_box(lot)
            for one in rows:
                for other in rows:
                    same = rest(lot, 2, one) == rest(lot, 2, other)
                    self.assertEqual(same, plus(one, -1, other) in box, (lot, one, other))

    def test_as_many_rests_as_the_determinant_tells(self):
        for lot, many in ((((2, 1), (1, 2)), 3), (((2, 2), (2, -2)), 8), (((3, 0), (0, 4)), 12), (((5, 2), (3, 1)), 1)):
            found = {}
            for row in all_choices(range(-12, 12), repeat=2):
                found[rest(lot, 2, row)] = True
            self.assertEqual(len(found), many, lot)


class NothingIsChanged(unittest.TestCase):
    def test_the_same_again_and_all_as_it_was(self):
        numbers = Numbers(31)
        asked = []
        for lot, wide in drawn_lots():
            row = numbers.row(wide, 9)
            kept = repr((lot, row))
            asked = asked + [(lot, wide, row, plain(lot, wide), rest(lot, wide, row))]
            self.assertEqual(repr((lot, row)), kept)
        for lot, wide, row, plain_lot, left in asked:
            same_lot = tuple([tuple(list(one)) for one in lot])
            self.assertEqual(plain(same_lot, wide), plain_lot)
            self.assertEqual(rest(same_lot, wide, tuple(list(row))), left)


if __name__ == "__main__":
    unittest.main()
