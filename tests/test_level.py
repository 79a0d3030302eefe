"""Promises 0.2 (d), 4.1 and 4.2."""

import unittest
from itertools import product as all_choices

from samples import (
    LARGE, Numbers, WIDES, added, drawn_lots, is_filled, is_made, level, looks_plain, lots_beyond, measure, ones,
    plus, small_lots,
)
from rowwright.level import across, filled, idle


class Idle(unittest.TestCase):
    def test_written_out(self):
        cases = [
            (((3,),), 1, ()), (((0,),), 1, ((1,),)), (((2,), (3,)), 1, ((3, -2),)), (((4,), (6,)), 1, ((3, -2),)),
            (((0, 0), (1, 2)), 2, ((1, 0),)), (((1, 2), (1, 2)), 2, ((1, -1),)), (((1, 0), (0, 1)), 2, ()),
            (((1, 0), (0, 1), (1, 1)), 2, ((1, 1, -1),)), (((0,), (0,)), 1, ((1, 0), (0, 1))),
            (((1,), (2,), (3,)), 1, ((1, 1, -1), (0, 3, -2))),
            (((1, 2, 3), (4, 5, 6), (7, 8, 9)), 3, ((1, -2, 1),)),
        ]
        for lot, wide, told in cases:
            self.assertEqual(idle(lot, wide), told, lot)

    def test_just_the_counts_that_make_noughts(self):
        for lot, wide in drawn_lots() + lots_beyond():
            told = idle(lot, wide)
            self.assertTrue(looks_plain(told, len(lot)), told)
            for counts in told:
                self.assertEqual(added(counts, lot, wide), (0,) * wide, lot)
            # Counts of which some multiple makes noughts make noughts too: so no rows may be wanting in between.
            self.assertEqual(len(told), len(lot) - measure(lot, wide)[0], lot)
            self.assertTrue(is_filled(told, len(lot)), lot)

    def test_all_small_counts(self):
        for lot, wide in small_lots():
            if len(lot) == 3:
                told = idle(lot, wide)
                for counts in all_choices(range(-2, 3), repeat=3):
                    empty = added(counts, lot, wide) == (0,) * wide
                    self.assertEqual(is_made(counts, told, 3), empty, (lot, counts))

    def test_rows_of_noughts(self):
        for wide in WIDES:
            for rows in range(1, 9):
                self.assertEqual(idle(((0,) * wide,) * rows, wide), ones(rows))

    def test_rows_that_stand_free(self):
        for wide in WIDES:
            self.assertEqual(idle(ones(wide), wide), ())

    def test_of_the_lot_without_rows(self):
        for wide in WIDES:
            self.assertEqual(idle((), wide), ())


class Across(unittest.TestCase):
    def test_written_out(self):
        cases = [
            (((3,),), 1, ()), (((0,),), 1, ((1,),)), (((1, 0),), 2, ((0, 1),)), (((2, 4),), 2, ((2, -1),)),
            (((1, 1, 1),), 3, ((1, 0, -1), (0, 1, -1))), (((1, 2, 3), (4, 5, 6)), 3, ((1, -2, 1),)),
            (((6, 10, 15),), 3, ((5, 0, -2), (0, 3, -2))), (((0, 5),), 2, ((1, 0),)),
        ]
        for lot, wide, told in cases:
            self.assertEqual(across(lot, wide), told, lot)

    def test_just_the_rows_that_stand_level(self):
        for lot, wide in drawn_lots() + lots_beyond():
            told = across(lot, wide)
            self.assertTrue(looks_plain(told, wide), told)
            for row in told:
                self.assertEqual([level(row, one) for one in lot], [0] * len(lot), lot)
            self.assertEqual(len(told), wide - measure(lot, wide)[0], lot)
            self.assertTrue(is_filled(told, wide), lot)

    def test_all_small_rows(self):
        for lot, wide in small_lots():
            if wide == 3:
                told = across(lot, wide)
                for row in all_choices(range(-2, 3), repeat=3):
                    stands = all([level(row, one) == 0 for one in lot])
                    self.assertEqual(is_made(row, told, 3), stands, (lot, row))

    def test_of_no_rows_and_noughts(self):
        for wide in WIDES:
            for rows in range(0, 9):
                self.assertEqual(across(((0,) * wide,) * rows, wide), ones(wide))
            self.assertEqual(across(ones(wide), wide), ())


class Filled(unittest.TestCase):
    def test_written_out(self):
        cases = [
            (((3,),), 1, ((1,),)), (((0,),), 1, ()), (((4, 6),), 2, ((2, 3),)), (((-4, 6),), 2, ((2, -3),)),
            (((2, 2), (2, -2)), 2, ((1, 0), (0, 1))), (((0, 5), (0, 7)), 2, ((0, 1),)),
            (((1, 1, 0), (1, -1, 0)), 3, ((1, 0, 0), (0, 1, 0))), (((2, 0, 4), (0, 3, 3)), 3, ((1, 0, 2), (0, 1, 1))),
            (((LARGE, 2 * LARGE),), 2, ((1, 2),)),
        ]
        for lot, wide, told in cases:
            self.assertEqual(filled(lot, wide), told, lot)

    def test_just_the_rows_of_which_a_multiple_is_made(self):
        for lot, wide in drawn_lots() + lots_beyond():
            told = filled(lot, wide)
            self.assertTrue(looks_plain(told, wide), told)
            self.assertTrue(is_filled(told, wide), lot)
            self.assertEqual(len(told), measure(lot, wide)[0], lot)
            # As no more rows stand free in it than in the lot, which it makes, the lot makes a multiple of each.
            self.assertTrue(all([is_made(row, told, wide) for row in lot]), lot)

    def test_a_multiple_of_each_row_is_made(self):
        for lot, wide in drawn_lots():
            times = measure(lot, wide)[1]
            for row in filled(lot, wide):
                self.assertTrue(is_made(plus((0,) * wide, times, row), lot, wide), (lot, row))

    def test_all_small_rows(self):
        for lot, wide in small_lots():
            if wide == 2:
                told = filled(lot, wide)
                free = measure(lot, wide)[0]
                for row in all_choices(range(-3, 4), repeat=2):
                    some = measure(lot + (row,), wide)[0] == free
                    self.assertEqual(is_made(row, told, 2), some, (lot, row))

    def test_of_no_rows_and_noughts(self):
        for wide in WIDES:
            for rows in range(0, 9):
                self.assertEqual(filled(((0,) * wide,) * rows, wide), ())

    def test_level_to_all_that_stands_level(self):
        numbers = Numbers(51)
        for lot, wide in drawn_lots():
            told = filled(lot, wide)
            self.assertEqual(across(across(lot, wide), wide), told, lot)
            self.assertEqual(filled(told, wide), told, lot)
            self.assertEqual(across(told, wide), across(lot, wide), lot)
            times = numbers.between(2, 9)
            self.assertEqual(filled(tuple([plus((0,) * wide, times, row) for row in lot]), wide), told, lot)


if __name__ == "__main__":
    unittest.main()
