"""Promises 0.2 (b), 3.1 and 3.2."""

import unittest
from itertools import product as all_choices

from samples import (
    LARGE, Numbers, WIDES, added, drawn_lots, is_made, level, lots_beyond, make_same, ones, only_tuples_of_ints, plus,
    small_lots,
)
from rowwright.stacks import plain
from rowwright.ways import how, made


def rows_to_ask(numbers, lot, wide):
    """Rows that are made, and such as lie beside them."""
    noughts = (0,) * wide
    rows = [noughts, numbers.row(wide, 3), numbers.row(wide, LARGE)] + list(lot[:2])
    for high in (2, LARGE):
        sure = added(numbers.row(len(lot), high), lot, wide)
        place = numbers.between(0, wide - 1)
        rows = rows + [sure, plus(sure, 1, ones(wide)[place]), plus(sure, -LARGE, ones(wide)[place])]
    return rows


class Answers(unittest.TestCase):
    def check_counts(self, counts, lot, wide, row):
        self.assertTrue(only_tuples_of_ints(counts), counts)
        self.assertEqual(len(counts), len(lot))
        self.assertEqual(added(counts, lot, wide), row, (lot, counts))

    def check_price(self, price, lot, wide, row):
        self.assertTrue(only_tuples_of_ints(price), price)
        numbers, divisor = price
        self.assertEqual(len(numbers), wide)
        self.assertGreaterEqual(divisor, 1)
        for one in lot:
            self.assertEqual(level(numbers, one) % divisor, 0, (lot, price))
        self.assertNotEqual(level(numbers, row) % divisor, 0, (lot, price, row))

    def check_made(self, lot, wide, row):
        told = made(lot, wide, row)
        self.assertIs(type(told), tuple)
        self.assertEqual(len(told), 2)
        self.assertIs(type(told[0]), str)
        if told[0] == "made":
            self.check_counts(told[1], lot, wide, row)
        else:
            self.assertEqual(told[0], "not")
            self.check_price(told[1], lot, wide, row)
        return told[0]


class How(Answers):
    def test_written_out(self):
        self.assertEqual(how(((2, 4), (3, 5)), 2), ((-1, 1), (3, -2)))
        self.assertEqual(how(((-5,),), 1), ((-1,),))
        self.assertEqual(how(((0, 1), (1, 0)), 2), ((0, 1), (1, 0)))
        self.assertEqual(how(((1, 7), (0, 2)), 2), ((1, -3), (0, 1)))

    def test_of_no_rows_and_noughts(self):
        for wide in WIDES:
            self.assertEqual(how((), wide), ())
            for rows in range(1, 9):
                self.assertEqual(how(((0,) * wide,) * rows, wide), ())

    def test_counts_make_the_plain_lot_in_order(self):
        for lot, wide in drawn_lots() + lots_beyond():
            told = how(lot, wide)
            self.assertIs(type(told), tuple)
            lines = plain(lot, wide)
            self.assertEqual(len(told), len(lines), lot)
            for counts, line in zip(told, lines):
                self.check_counts(counts, lot, wide, line)

    def test_what_the_counts_make_makes_the_lot(self):
        for lot, wide in drawn_lots():
            lines = tuple([added(counts, lot, wide) for counts in how(lot, wide)])
            self.assertTrue(make_same(lines, lot, wide), lot)

    def test_rows_that_are_sums_of_others(self):
        lot = ((6, 0), (10, 0), (16, 0), (15, 0), (0, 0), (1, 3), (1, 3), (-1, -3))
        for counts, line in zip(how(lot, 2), ((1, 0), (0, 3)), strict=True):
            self.check_counts(counts, lot, 2, line)


class Made(Answers):
    def test_written_out(self):
        self.assertEqual(made(((2, 4), (3, 5)), 2, (1, 3)), ("made", (2, -1)))
        self.assertEqual(made(((3, -3),), 2, (-6, 6)), ("made", (-2,)))
        for lot, wide, row in ((((2,),), 1, (3,)), (((2, 0), (0, 2)), 2, (0, 1)), (((1, 1),), 2, (1, 2)),
                               (((2, 2), (2, -2)), 2, (2, 0)), (((0, 3),), 2, (1, 0)), (((0, 3),), 2, (0, -1)),
                               (((1, 2, 3), (4, 5, 6), (7, 8, 9)), 3, (0, 0, 1)), (((4, 6),), 2, (2, 3))):
            self.assertEqual(self.check_made(lot, wide, row), "not", (lot, row))

    def test_of_the_lot_without_rows(self):
        numbers = Numbers(41)
        for wide in WIDES:
            self.assertEqual(made((), wide, (0,) * wide), ("made", ()))
            for row in ones(wide) + (numbers.row(wide, LARGE), (-1,) * wide):
                self.assertEqual(self.check_made((), wide, row), "not", row)

    def test_of_rows_of_noughts(self):
        for wide in WIDES:
            lot = ((0,) * wide,) * 3
            self.assertEqual(self.check_made(lot, wide, (0,) * wide), "made")
            self.assertEqual(self.check_made(lot, wide, (0,) * (wide - 1) + (-7,)), "not")

    def test_counts_or_a_price(self):
        numbers = Numbers(42)
        seen = {"made": 0, "not": 0}
        for lot, wide in drawn_lots() + lots_beyond():
            for row in rows_to_ask(numbers, lot, wide):
                told = self.check_made(lot, wide, row)
                seen[told] = seen[told] + 1
        self.assertGreater(min(seen.values()), 500)

    def test_made_just_if_some_counts_make_it(self):
        numbers = Numbers(43)
        for lot, wide in small_lots():
            for row in rows_to_ask(numbers, lot, wide)[:7]:
                self.assertEqual(made(lot, wide, row)[0] == "made", is_made(row, lot, wide), (lot, row))

    def test_all_small_lots_of_two_places(self):
        rows = list(all_choices(range(-2, 3), repeat=2))
        for lot in all_choices(rows[::2], repeat=2):
            for row in rows:
                self.check_made(lot, 2, row)

    def test_parts_of_made_rows(self):
        numbers = Numbers(44)
        for wide in WIDES:
            for rows in range(1, 9):
                few = numbers.lot(rows, wide, 3)
                lot = tuple([plus((0,) * wide, 6, row) for row in few])
                for row in few:
                    for times in (1, 2, 3, 4):
                        part = plus((0,) * wide, times, row)
                        self.assertEqual(self.check_made(lot, wide, part) == "made", is_made(part, lot, wide), lot)

    def test_never_both(self):
        numbers = Numbers(45)
        for lot, wide in drawn_lots():
            told, price = made(lot, wide, numbers.row(wide, 5))
            if told == "not":
                for high in (1, 9, LARGE):
                    sure = added(numbers.row(len(lot), high), lot, wide)
                    self.assertEqual(level(price[0], sure) % price[1], 0, (lot, price))
                    self.assertEqual(made(lot, wide, sure)[0], "made", lot)


if __name__ == "__main__":
    unittest.main()
