"""[5.6]: which numbers of kinds can be told to each other."""

import functools
import itertools
import random
import unittest

from risingcalls.counts import asked_count, told_count
from risingcalls.errors import BadEnds, BadKinds, BadLadder
from risingcalls.goals import Goals
from risingcalls.staircases import both_split, least_both, most_both, serves_both, staircase
from risingcalls.winning import is_won
from test_counts import drawn_ends
from wonworlds import told_first
from worlds import ALL_SIDES, NO_SEQUENCE, NO_WHOLE, Case, spoil


def told_both(ladder, ends):
    """B of [5.6] and its parts, written down as the point tells them."""
    top = told_count(ladder)

    @functools.cache
    def split(end, q):
        first = int(q == 1 and (ends is None or end in ends))
        return (first,) + tuple(max([p for p in range(1, top + 1) if most(call, p) >= q], default=0)
                                for call in range(end + 1, ladder + 1))

    def most(end, q):
        return sum(split(end, q))

    return split, most


class Both(Case):
    def test_drawn_ends(self):
        rng = random.Random(541)
        for _ in range(60):
            ladder = rng.randint(0, 6)
            ends = drawn_ends(rng, ladder)
            split, most = told_both(ladder, ends)
            for q in range(1, told_count(ladder) + 3):
                self.same(both_split(ladder, q, ends=ends), split(0, q))
                self.same(most_both(ladder, q, ends=ends and tuple(ends)), most(0, q) if ends != [] else 0)
                for p in (1, 2, most(0, q), most(0, q) + 1):
                    if p >= 1:
                        self.same(serves_both(ladder, p, q, ends=ends), p <= most(0, q))

    def test_the_greatest_ladders(self):
        for ladder in (7, 8):
            split, most = told_both(ladder, None)
            for q in range(1, told_count(ladder) + 2):
                self.same(both_split(ladder, q), split(0, q))
                self.same(most_both(ladder, q), most(0, q))
            self.same(most_both(ladder, 1), told_count(ladder))

    def test_staircases_are_the_corners_of_serves_both(self):
        rng = random.Random(542)
        nothing = 0
        for _ in range(40):
            ladder = rng.randint(0, 5)
            ends = drawn_ends(rng, ladder)
            numbers = range(1, told_count(ladder) + 2)
            served = {pair for pair in itertools.product(numbers, numbers) if serves_both(ladder, *pair, ends=ends)}
            corners = tuple(sorted((p, q) for p, q in served if (p + 1, q) not in served and (p, q + 1) not in served))
            self.same(staircase(ladder, ends=ends), corners)
            self.same(staircase(ladder, ends=ends), staircase(ladder, ends=None if ends is None else tuple(ends)))
            nothing += corners == ()
            # lesser numbers of a served couple are served
            for p, q in served:
                self.assertTrue((p == 1 or (p - 1, q) in served) and (q == 1 or (p, q - 1) in served))
        self.assertGreater(nothing, 1)

    def test_by_hand(self):
        self.same(staircase(4), ((1, 5), (2, 3), (4, 2), (8, 1)))
        self.same([staircase(ladder) for ladder in (0, 1, 2)], [((1, 1),), ((2, 1),), ((1, 2), (3, 1))])
        self.same(staircase(3, ends=[]), ())
        self.same(staircase(2, ends=[0]), ((1, 1),))
        self.same(both_split(2, 1), (1, 1, 1))
        self.same(both_split(2, 2), (0, 1, 0))
        self.same(both_split(0, 1, ends=[]), (0,))
        self.same(both_split(2, 10 ** 30), (0, 0, 0))
        self.same(most_both(2, 10 ** 30), 0)
        self.same(serves_both(8, 10 ** 30, 1), False)
        self.same(serves_both(8, 55, 1), True)

    def test_served_exactly_if_the_goals_are_won(self):
        rng = random.Random(543)
        counts = {True: 0, False: 0}
        for sides in ALL_SIDES:
            for ladder in range(7):
                for ends in (None, drawn_ends(rng, ladder) or [ladder]):
                    wanted = list(range(ladder + 1)) if ends is None else ends
                    goals = Goals(ladder, [[wanted] * sides[1]] * sides[0], (True, True))
                    truth = is_won(goals, told_first(goals))
                    self.same(serves_both(ladder, *sides, ends=ends), truth)
                    counts[truth] += 1
        self.assertGreater(min(counts.values()), 50)

    def test_west_alone_is_told_as_asked_count_tells(self):
        for ladder in range(9):
            self.same(max(q for q in range(1, 60) if serves_both(ladder, 1, q)), asked_count(ladder))

    def test_numbers_above_told_count_are_never_served(self):
        for ladder in range(9):
            for number in range(1, told_count(ladder) + 4):
                self.same(most_both(ladder, number) <= told_count(ladder), True)
            self.same(most_both(ladder, told_count(ladder) + 1), 0)

    def test_least_both(self):
        for p, q in itertools.product(range(1, 9), repeat=2):
            ladder = least_both(p, q)
            self.same(serves_both(ladder, p, q), True)
            if ladder:
                self.same(serves_both(ladder - 1, p, q), False)
        self.same((least_both(1, 1), least_both(2, 1), least_both(1, 2), least_both(8, 8)), (0, 1, 2, 8))

    def test_nothing_is_changed(self):
        ends = [2, 0, 2]
        found = (both_split(3, 1, ends=ends), staircase(3, ends=ends))
        self.same(ends, [2, 0, 2])
        spoil(ends)
        self.same(found, (both_split(3, 1, ends=(0, 2)), staircase(3, ends=(0, 2))))


class Refusals(Case):
    def test_ladders(self):
        for odd in (*NO_WHOLE, -1, 9):
            self.refused(BadLadder(), most_both, odd, 0, ends=0)
            self.refused(BadLadder(), both_split, odd, 0, ends=0)
            self.refused(BadLadder(), serves_both, odd, 0, 0, ends=0)
            self.refused(BadLadder(), staircase, odd, ends=0)

    def test_ends(self):
        for odd in (*[odd for odd in NO_SEQUENCE if odd is not None], [3], [-1], [None], [True], [0.0]):
            self.refused(BadEnds(), most_both, 2, 0, ends=odd)
            self.refused(BadEnds(), both_split, 2, 0, ends=odd)
            self.refused(BadEnds(), serves_both, 2, 0, 0, ends=odd)
            self.refused(BadEnds(), staircase, 2, ends=odd)

    def test_numbers(self):
        for odd in (*NO_WHOLE, 0, -1):
            self.refused(BadKinds(), most_both, 2, odd)
            self.refused(BadKinds(), both_split, 2, odd)
            self.refused(BadKinds(), serves_both, 2, odd, 1)
            self.refused(BadKinds(), serves_both, 2, 1, odd)
        for odd in (*NO_WHOLE, 0, -1, 9):
            self.refused(BadKinds(), least_both, odd, 1)
            self.refused(BadKinds(), least_both, 1, odd)


if __name__ == "__main__":
    unittest.main()
