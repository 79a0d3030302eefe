"""Promises 0.2 (a) to (f) and 0.3, over the whole program and many drawn lots."""

import unittest

from samples import LARGE, Numbers, added, drawn_lots, is_made, level, make_same, measure, plus
from rowwright.level import across, filled, idle
from rowwright.pairs import shared, together, within
from rowwright.sizes import grades, weight
from rowwright.stacks import plain, rest
from rowwright.ways import how, made


def other_lots(numbers, lot, wide):
    """Lots that make the same as a lot, and lots that make nearly the same."""
    noughts = (0,) * wide
    sure = added(numbers.row(len(lot), 3), lot, wide)
    others = [tuple(reversed(lot)) + (sure,), tuple([plus(noughts, -1, row) for row in lot]), plain(lot, wide)]
    others = others + [lot[1:], lot + (numbers.row(wide, 2),), tuple([plus(noughts, 2, row) for row in lot])]
    if len(lot) > 0:
        others = others + [lot[:-1] + (plus(lot[-1], 1, lot[0]),), lot[:-1] + (plus(lot[-1], LARGE, sure),)]
    return others


class ForAllLots(unittest.TestCase):
    def test_same_plain_lot_just_if_the_same_is_made(self):
        numbers = Numbers(81)
        seen = {True: 0, False: 0}
        for lot, wide in drawn_lots():
            for other in other_lots(numbers, lot, wide):
                same = make_same(lot, other, wide)
                seen[same] = seen[same] + 1
                self.assertEqual(plain(lot, wide) == plain(other, wide), same, (lot, other))
                self.assertEqual(within(lot, other, wide) and within(other, lot, wide), same, (lot, other))
        self.assertGreater(min(seen.values()), 200)

    def test_counts_or_a_price_and_never_both(self):
        numbers = Numbers(82)
        for lot, wide in drawn_lots():
            row = numbers.row(wide, 3)
            told, why = made(lot, wide, row)
            self.assertEqual(told, "made" if is_made(row, lot, wide) else "not", (lot, row))
            if told == "made":
                self.assertEqual(added(why, lot, wide), row, lot)
            else:
                self.assertEqual([level(why[0], one) % why[1] for one in lot], [0] * len(lot), lot)
                self.assertNotEqual(level(why[0], row) % why[1], 0, (lot, row))

    def test_same_rest_just_if_apart_by_a_made_row(self):
        numbers = Numbers(83)
        for lot, wide in drawn_lots():
            one = numbers.row(wide, 9)
            sure = added(numbers.row(len(lot), 9), lot, wide)
            for other in (plus(one, 1, sure), plus(one, 1, numbers.row(wide, 1)), numbers.row(wide, 9)):
                same = rest(lot, wide, one) == rest(lot, wide, other)
                self.assertEqual(same, is_made(plus(one, -1, other), lot, wide), (lot, one, other))

    def test_what_makes_nothing_and_what_stands_level(self):
        for lot, wide in drawn_lots():
            free = measure(lot, wide)[0]
            self.assertEqual(len(idle(lot, wide)), len(lot) - free, lot)
            self.assertEqual(len(across(lot, wide)), wide - free, lot)
            self.assertEqual(across(across(lot, wide), wide), filled(lot, wide), lot)
            self.assertEqual(len(filled(lot, wide)), free, lot)

    def test_weights_multiplied(self):
        numbers = Numbers(84)
        seen = 0
        for lot, wide in drawn_lots():
            for high in (3, LARGE):
                other = numbers.lot(wide, wide, high)
                both = (weight(lot, wide), weight(other, wide))
                if None not in both:
                    seen = seen + 1
                    told = weight(together(lot, other, wide), wide) * weight(shared(lot, other, wide), wide)
                    self.assertEqual(told, both[0] * both[1], (lot, other))
                    self.assertEqual(both[0] * both[1], measure(lot, wide)[1] * measure(other, wide)[1])
        self.assertGreater(seen, 100)

    def test_lots_that_make_the_same_are_told_the_same(self):
        numbers = Numbers(85)
        for lot, wide in drawn_lots():
            third = numbers.lot(3, wide, 4)
            for other in other_lots(numbers, lot, wide)[:3]:
                for ask in (across, filled, weight, grades):
                    self.assertEqual(ask(other, wide), ask(lot, wide), (ask, lot))
                for ask in (together, shared, within):
                    self.assertEqual(ask(other, third, wide), ask(lot, third, wide), (ask, lot))
                    self.assertEqual(ask(third, other, wide), ask(third, lot, wide), (ask, lot))


class NothingIsChanged(unittest.TestCase):
    def test_the_same_again_and_all_as_it_was(self):
        numbers = Numbers(91)
        asked = []
        for lot, wide in drawn_lots():
            other = numbers.lot(3, wide, 4)
            row = numbers.row(wide, 9)
            asks = [(ask, (lot, wide)) for ask in (plain, how, idle, across, filled, weight, grades)]
            asks = asks + [(ask, (lot, wide, row)) for ask in (rest, made)]
            asks = asks + [(ask, (lot, other, wide)) for ask in (together, shared, within)]
            kept = repr((lot, other, row))
            asked = asked + [(ask, given, ask(*given)) for ask, given in asks]
            self.assertEqual(repr((lot, other, row)), kept)
        for ask, given, told in asked:
            again = ask(*given)
            self.assertEqual(again, told, (ask, given))
            self.assertEqual(repr(again), repr(told), (ask, given))


if __name__ == "__main__":
    unittest.main()
