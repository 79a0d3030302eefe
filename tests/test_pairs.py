"""Promises 0.2 (e) and 5.1."""

import unittest
from itertools import product as all_choices

from samples import (
    LARGE, Numbers, WIDES, added, is_filled, is_made, looks_plain, make_same, measure, ones, plus,
)
from rowwright.level import idle
from rowwright.pairs import shared, together, within


def drawn_pairs():
    """Pairs of lots of at most 4 rows each: apart, one within the other, with rows in common, noughts, large ones."""
    numbers = Numbers(61)
    pairs = []
    for wide in WIDES:
        for rows in all_choices(range(0, 5), repeat=2):
            one = numbers.lot(rows[0], wide, 3)
            other = numbers.lot(rows[1], wide, 3)
            inner = tuple([added(numbers.row(rows[0], 3), one, wide) for number in range(rows[1])])
            pairs = pairs + [(one, other, wide), (inner, one, wide), (one, inner, wide)]
            pairs = pairs + [(one[:2] + inner[:2], one, wide), (one[:2] + other[:2], one[1:3] + other[1:3], wide)]
        one = numbers.lot(4, wide, LARGE)
        pairs = pairs + [(one, numbers.lot(4, wide, LARGE), wide), (one, one[:3], wide), (one[:3], one, wide)]
        noughts = ((0,) * wide,) * 2
        pairs = pairs + [(noughts, one, wide), (one, noughts, wide), (noughts, (), wide), (one, (), wide)]
        twice = tuple([plus(row, 1, row) for row in one])
        thrice = tuple([plus(row, 2, row) for row in one])
        pairs = pairs + [(one, twice, wide), (twice, one, wide), (twice, thrice, wide)]
    return pairs


def pairs_beyond():
    """Pairs that lie somewhat beyond the document's bounds."""
    numbers = Numbers(62)
    sizes = ((5, 5, 3), (6, 2, 5), (8, 8, 4), (5, 5, 8), (6, 6, 6), (2, 3, 9), (9, 1, 2))
    return [(numbers.lot(one, wide, 3), numbers.lot(other, wide, 3), wide) for one, other, wide in sizes]


class Together(unittest.TestCase):
    def test_written_out(self):
        self.assertEqual(together(((4,),), ((6,),), 1), ((2,),))
        self.assertEqual(together(((1, 0),), ((0, 1),), 2), ((1, 0), (0, 1)))
        self.assertEqual(together(((2, 4),), ((3, 5),), 2), ((1, 1), (0, 2)))
        self.assertEqual(together((), ((-3, 1),), 2), ((3, -1),))
        self.assertEqual(together((), (), 2), ())

    def test_the_rows_of_both_added(self):
        numbers = Numbers(63)
        for one, other, wide in drawn_pairs() + pairs_beyond():
            told = together(one, other, wide)
            self.assertTrue(looks_plain(told, wide), told)
            self.assertTrue(make_same(told, one + other, wide), (one, other))
            self.assertEqual(together(other, one, wide), told)
            left = added(numbers.row(len(one), 9), one, wide)
            right = added(numbers.row(len(other), 9), other, wide)
            self.assertTrue(is_made(plus(left, 1, right), told, wide), (one, other))


class Shared(unittest.TestCase):
    def test_written_out(self):
        cases = [
            (((4,),), ((6,),), 1, ((12,),)), (((1, 0),), ((0, 1),), 2, ()), (((2, 0), (0, 1)), ((1, 0), (0, 3)), 2,
             ((2, 0), (0, 3))), (((1, 1), (0, 2)), ((2, 0), (0, 1)), 2, ((2, 0), (0, 2))), ((), ((1,),), 1, ()),
            (((1, 0, 0), (0, 1, 0)), ((0, 1, 0), (0, 0, 1)), 3, ((0, 1, 0),)), (((0,),), ((1,),), 1, ()),
            (((2, 2),), ((-3, -3),), 2, ((6, 6),)), (((1, 2),), ((1, 2),), 2, ((1, 2),)), ((), (), 2, ()),
        ]
        for one, other, wide, told in cases:
            self.assertEqual(shared(one, other, wide), told, (one, other))
            self.assertEqual(shared(other, one, wide), told, (other, one))

    def test_made_of_both(self):
        for one, other, wide in drawn_pairs() + pairs_beyond():
            told = shared(one, other, wide)
            self.assertTrue(looks_plain(told, wide), told)
            for row in told:
                self.assertTrue(is_made(row, one, wide), (one, other, row))
                self.assertTrue(is_made(row, other, wide), (one, other, row))
            self.assertEqual(shared(other, one, wide), told)

    def test_all_that_is_made_of_both(self):
        for one, other, wide in drawn_pairs() + pairs_beyond():
            both = one + other
            ties = idle(both, wide)
            # These are all counts that make noughts of both lots: so all rows of one that other makes come of them.
            self.assertEqual([added(counts, both, wide) for counts in ties], [(0,) * wide] * len(ties))
            self.assertEqual(len(ties), len(both) - measure(both, wide)[0])
            self.assertTrue(is_filled(ties, len(both)))
            wanted = tuple([added(counts[:len(one)], one, wide) for counts in ties])
            self.assertTrue(make_same(shared(one, other, wide), wanted, wide), (one, other))

    def test_all_small_rows(self):
        for one, other, wide in drawn_pairs():
            if wide == 2 and len(one) == 2:
                told = shared(one, other, wide)
                for row in all_choices(range(-4, 5), repeat=2):
                    both = is_made(row, one, 2) and is_made(row, other, 2)
                    self.assertEqual(is_made(row, told, 2), both, (one, other, row))

    def test_weights_of_thick_lots(self):
        thick = 0
        for one, other, wide in drawn_pairs() + pairs_beyond():
            if measure(one, wide)[0] == wide and measure(other, wide)[0] == wide:
                thick = thick + 1
                both = measure(shared(one, other, wide), wide)
                self.assertEqual(both[0], wide)
                all_told = both[1] * measure(together(one, other, wide), wide)[1]
                self.assertEqual(all_told, measure(one, wide)[1] * measure(other, wide)[1], (one, other))
        self.assertGreater(thick, 50)


class Within(unittest.TestCase):
    def test_written_out(self):
        cases = [
            (((4,),), ((2,),), 1, True), (((2,),), ((4,),), 1, False), ((), (), 3, True), ((), ((1, 2),), 2, True),
            (((0, 0),), (), 2, True), (((0, 1),), (), 2, False), (((2, 2),), ((1, 0), (0, 1)), 2, True),
            (((1, 0), (0, 1)), ((1, 1), (1, -1)), 2, False), (((1, 1), (1, -1)), ((1, 0), (0, 1)), 2, True),
            (((1, 0),), ((0, 1),), 2, False), (((3, 1),), ((-3, -1),), 2, True),
        ]
        for one, other, wide, told in cases:
            self.assertIs(within(one, other, wide), told, (one, other))

    def test_just_if_each_row_is_made(self):
        seen = {True: 0, False: 0}
        for one, other, wide in drawn_pairs() + pairs_beyond():
            for left, right in ((one, other), (other, one)):
                told = within(left, right, wide)
                self.assertIs(told, all([is_made(row, right, wide) for row in left]), (left, right))
                seen[told] = seen[told] + 1
        self.assertGreater(min(seen.values()), 100)

    def test_what_is_shared_and_together(self):
        for one, other, wide in drawn_pairs():
            both = shared(one, other, wide)
            every = together(one, other, wide)
            for lot in (one, other):
                self.assertIs(within(both, lot, wide), True)
                self.assertIs(within(lot, every, wide), True)
            self.assertIs(within(every, one, wide), within(other, one, wide))

    def test_all_rows_there_are(self):
        for wide in WIDES:
            self.assertIs(within(ones(wide), ones(wide), wide), True)
            self.assertIs(within(ones(wide), ones(wide)[1:], wide), False)
            self.assertIs(within(ones(wide)[1:], ones(wide), wide), True)


if __name__ == "__main__":
    unittest.main()
