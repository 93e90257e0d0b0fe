"""[1.1], [1.2], [1.3]: whole numbers, sides, couples, lots and orders."""

import itertools
import unittest

from risingcalls.basics import (
    are_sides, check_couple, check_lot, check_side, couples_of, is_lot, is_order, is_sequence, is_whole, other_side,
)
from risingcalls.errors import BadCouple, BadLot, BadSide
from worlds import ALL_SIDES, NO_SEQUENCE, NO_WHOLE, Case, listed, lots_of, spoil


class WholeNumbers(Case):
    def test_ints_are_whole(self):
        for number in (-7, -1, 0, 1, 6, 10 ** 30):
            self.same(is_whole(number), True)

    def test_nothing_else_is_whole(self):
        for thing in NO_WHOLE:
            self.same(is_whole(thing), False)
            self.same(is_whole(thing, 0), False)
            self.same(is_whole(thing, None, 9), False)
            self.same(is_whole(thing, 0, 9), False)

    def test_bounds_are_included(self):
        for number, low, high in itertools.product(range(-2, 4), (None, -1, 0, 2), (None, -1, 0, 2)):
            wanted = (low is None or number >= low) and (high is None or number <= high)
            self.same(is_whole(number, low, high), wanted)
        self.same(is_whole(3, high=2), False)
        self.same(is_whole(3, low=4), False)

    def test_sequences_are_lists_and_tuples(self):
        for thing in ([], (), [1], (None,)):
            self.same(is_sequence(thing), True)
        for thing in NO_SEQUENCE:
            self.same(is_sequence(thing), False)


class Sides(Case):
    def test_other_side(self):
        self.same((other_side(0), other_side(1)), (1, 0))

    def test_check_side(self):
        self.same((check_side(0), check_side(1)), (0, 1))
        for thing in (*NO_WHOLE, -1, 2, 6):
            self.refused(BadSide(), check_side, thing)

    def test_are_sides(self):
        for pair in itertools.product(range(-1, 14), repeat=2):
            self.same(are_sides(pair), pair in ALL_SIDES)
            self.same(are_sides(list(pair)), pair in ALL_SIDES)

    def test_the_number_of_sides(self):
        self.assertEqual(len(ALL_SIDES), 6 + 6 + 4 + 3 + 2 + 2)
        self.assertTrue(are_sides((6, 2)) and are_sides((3, 4)) and are_sides((1, 1)))
        self.assertFalse(are_sides((7, 1)) or are_sides((3, 5)) or are_sides((0, 1)) or are_sides((1, 7)))

    def test_other_things_are_no_sides(self):
        for thing in (*NO_SEQUENCE, (), (1,), (2, 2, 2), {1: 2, 2: 1}):
            self.same(are_sides(thing), False)
        for odd in NO_WHOLE:
            self.same((are_sides((odd, 1)), are_sides((1, odd))), (False, False))

    def test_couples_ascend(self):
        self.same(couples_of((2, 3)), ((0, 0), (0, 1), (0, 2), (1, 0), (1, 1), (1, 2)))
        for sides in ALL_SIDES:
            self.same(couples_of(sides), tuple(itertools.product(range(sides[0]), range(sides[1]))))
            self.same(couples_of(list(sides)), couples_of(sides))

    def test_check_couple_takes_all_couples(self):
        for sides in ALL_SIDES:
            for couple in itertools.product(range(-1, 8), repeat=2):
                for asked in (couple, list(couple)):
                    if couple in couples_of(sides):
                        self.same(check_couple(sides, asked), couple)
                        self.same(check_couple(list(sides), asked), couple)
                    else:
                        self.refused(BadCouple(), check_couple, sides, asked)

    def test_check_couple_refuses_other_things(self):
        for thing in (*NO_SEQUENCE, (), (0,), (0, 0, 0)):
            self.refused(BadCouple(), check_couple, (2, 2), thing)
        for odd in NO_WHOLE:
            self.refused(BadCouple(), check_couple, (2, 2), (odd, 0))
            self.refused(BadCouple(), check_couple, (2, 2), (0, odd))


class Lots(Case):
    def test_lots_of_small_sides(self):
        for kinds in range(1, 5):
            wanted = lots_of(kinds)
            for size in range(5):
                for lot in itertools.product(range(-1, kinds + 1), repeat=size):
                    self.same(is_lot(lot, kinds), lot in wanted)
                    self.same(is_lot(list(lot), kinds), lot in wanted)

    def test_the_greatest_lots(self):
        for kinds in range(1, 7):
            self.assertTrue(is_lot(range_tuple := tuple(range(kinds)), kinds))
            self.assertFalse(is_lot(range_tuple, kinds - 1))
            self.assertFalse(is_lot(range_tuple + (kinds,), kinds))
            self.assertTrue(kinds == 1 or not is_lot(range_tuple[::-1], kinds))

    def test_other_things_are_no_lots(self):
        for thing in NO_SEQUENCE:
            self.same(is_lot(thing, 3), False)
        for odd in NO_WHOLE:
            self.same((is_lot((odd,), 3), is_lot((0, odd), 3), is_lot([odd, 2], 3)), (False, False, False))

    def test_check_lot_returns_a_tuple(self):
        for lot in lots_of(6):
            self.same(check_lot(listed(lot), 6, 0), lot)
            self.same(check_lot(lot, 6, 1), lot)

    def test_check_lot_names_the_side(self):
        for side in (0, 1):
            for thing in (*NO_SEQUENCE, (), (3,), (1, 0), (1, 1), (True,), (-1,), (0, None)):
                self.refused(BadLot(side), check_lot, thing, 3, side)

    def test_what_was_passed_is_neither_changed_nor_kept(self):
        lot = [0, 2]
        found = check_lot(lot, 3, 0)
        self.same(lot, [0, 2])
        spoil(lot)
        self.same(found, (0, 2))
        couple = [1, 0]
        found = check_couple([2, 2], couple)
        spoil(couple)
        self.same(found, (1, 0))

    def test_orders_have_each_kind_once(self):
        for many in range(1, 5):
            wanted = list(itertools.permutations(range(many)))
            for size in range(6):
                for order in itertools.product(range(-1, many + 1), repeat=size):
                    self.same(is_order(order, many), order in wanted)
        self.same(is_order([5, 3, 1, 0, 2, 4], 6), True)
        self.same(is_order([5, 3, 1, 0, 2, 5], 6), False)

    def test_other_things_are_no_orders(self):
        for thing in NO_SEQUENCE:
            self.same(is_order(thing, 2), False)
        for odd in NO_WHOLE:
            self.same((is_order((odd, 0), 2), is_order([1, odd], 2)), (False, False))


if __name__ == "__main__":
    unittest.main()
