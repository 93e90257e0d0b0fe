"""[6.1], [6.2]: foes' words, and what is won against foes."""

import itertools
import random
import unittest

from risingcalls.errors import BadLeap, BadStand, BadWord
from risingcalls.foes import foe_replies, is_won_foes, won_parts_foes
from risingcalls.goals import Goals
from risingcalls.winning import is_won, won_parts
from wonworlds import (
    TRUTHS, drawn_goals, many_drawn, parts_in_lot, told_first, told_part_lost, told_won, words_at,
)
from worlds import NO_SEQUENCE, NO_WHOLE, Case, listed

WORLDS = [((1, 1), ladder) for ladder in range(5)] + [
    ((2, 1), 0), ((2, 1), 2), ((2, 1), 3), ((1, 2), 2), ((1, 2), 4), ((2, 2), 1), ((2, 2), 2), ((3, 2), 1), ((1, 3), 2)]
GOALS = Goals.all_wanted((3, 2), 2)


class Replies(Case):
    def test_every_leap(self):
        for ladder in range(7):
            for standing in range(ladder + 1):
                for leap in range(ladder + 1):
                    calls = [call for call in range(1, ladder + 1) if standing < call <= standing + leap]
                    self.same(foe_replies(ladder, standing, leap), (0, *calls))


class Winning(Case):
    def test_every_stand_of_small_goals_and_every_leap(self):
        counts = {True: 0, False: 0}
        for goals in many_drawn(601, WORLDS, shares=(0.5, 0.8, 0.95)):
            for leap in range(goals.ladder + 1):
                for stand, truth in told_won(goals, leap).items():
                    self.same(is_won_foes(goals, stand, leap), truth)
                    counts[truth] += 1
        self.assertGreater(min(counts.values()), 3000)

    def test_some_stands_of_larger_goals(self):
        rng = random.Random(602)
        for goals in many_drawn(603, [((2, 2), 4), ((3, 2), 3), ((2, 3), 3), ((6, 2), 1), ((3, 3), 2)], shares=(0.95,)):
            leap = rng.randint(0, goals.ladder)
            won = told_won(goals, leap)
            for stand in [told_first(goals)] + [stand for stand in won if rng.random() < 0.05]:
                self.same(is_won_foes(goals, stand, leap), won[stand])

    def test_leap_0_decides_as_plain_talks_do(self):
        rng = random.Random(604)
        for goals in many_drawn(605, [((2, 2), 3), ((3, 4), 6), ((6, 2), 5), ((1, 6), 4)]):
            self.same(is_won_foes(goals, told_first(goals), 0), is_won(goals, told_first(goals)))
            if goals.ladder == 3:
                for stand in told_won(goals):
                    word = rng.choice(words_at(goals, stand))
                    self.same(is_won_foes(goals, stand, 0), is_won(goals, stand))
                    self.same(won_parts_foes(goals, stand, word, 0), won_parts(goals, stand, word))

    def test_what_is_lost_with_a_leap_is_lost_with_every_greater_one(self):
        changed = 0
        for goals in many_drawn(606, [((2, 1), 3), ((2, 2), 4), ((1, 2), 5), ((3, 1), 6)], many=3, shares=(0.8, 0.95)):
            truths = [is_won_foes(goals, told_first(goals), leap) for leap in range(goals.ladder + 1)]
            self.same(truths, sorted(truths, reverse=True))
            changed += len(set(truths)) == 2
        self.assertGreater(changed, 15)

    def test_by_hand(self):
        # a foe's call behind the stop makes 1 stand, said by a foe
        self.same(is_won_foes(Goals(1, [[[0]]]), ((0,), (0,), 0, 0), 0), True)
        self.same(is_won_foes(Goals(1, [[[0]]]), ((0,), (0,), 0, 0), 1), False)
        self.same(is_won_foes(Goals(1, [[[-1, 0]]]), ((0,), (0,), 0, 0), 1), True)
        self.same(is_won_foes(Goals(1, [[[1]]]), ((0,), (0,), 0, 0), 1), True)
        self.same(is_won_foes(Goals(2, [[[1]]]), ((0,), (0,), 0, 0), 1), False)
        self.same(is_won_foes(Goals(2, [[[-2]]]), ((0,), (0,), -2, 1), 2), True)
        self.same(is_won_foes(Goals(2, [[[2]]]), ((0,), (0,), -2, 1), 2), False)
        self.same(is_won_foes(Goals(2, [[[2]]]), ((0,), (0,), -1, 1), 2), True)

    def test_lists_are_taken(self):
        self.same(is_won_foes(GOALS, [[0, 2], [1], -1, 1], 2), True)
        self.same(won_parts_foes(GOALS, [[0, 2], [1], -1, 0], 2, 2), ((0, 2),))

    def test_the_greatest_goals_answer(self):
        rng = random.Random(607)
        for sides in ((3, 4), (2, 6), (6, 2)):
            for leap in (0, 1, 3, 6):
                goals = drawn_goals(rng, sides, 6, 0.97, rng.choice(TRUTHS))
                first = told_first(goals)
                truth = is_won_foes(goals, first, leap)
                if not truth:
                    self.same(any(won_parts_foes(goals, first, word, leap) == (first[0],) for word in range(7)), False)


class Parts(Case):
    def test_every_stand_word_and_leap(self):
        seen = {0: 0, 1: 0, 2: 0}
        for goals in many_drawn(611, WORLDS, shares=(0.8,)):
            for leap in range(goals.ladder + 1):
                won = told_won(goals, leap)
                for stand, word in [(stand, word) for stand in won for word in words_at(goals, stand)]:
                    held = [part for part in parts_in_lot(stand[stand[3]])
                            if not told_part_lost(goals, stand, part, word, leap, lambda behind: not won[behind])]
                    wanted = [part for part in held if not any(set(part) < set(wide) for wide in held)]
                    self.same(won_parts_foes(goals, stand, word, leap), tuple(sorted(wanted)))
                    seen[min(2, len(wanted))] += 1
        self.assertGreater(min(seen.values()), 150)

    def test_words_that_may_not_be_said(self):
        for end in range(-2, 3):
            stand = ((0, 2), (1,), end, 0)
            for word in (*NO_WHOLE, -1, 3, 7, *range(1, abs(end) + 1)):
                self.refused(BadWord(word), won_parts_foes, GOALS, stand, word, 1)


class Wrong(Case):
    def test_stands_ahead_of_leaps_ahead_of_words(self):
        good = ((0,), (0,), 0, 0)
        for what, stands in (
                ("stand", (*NO_SEQUENCE, ((0,), (0,), 0))),
                ("east", [(odd, (9,), 9, 9) for odd in (*NO_SEQUENCE, (), (3,), (1, 0))]),
                ("west", [((0,), odd, 9, 9) for odd in (*NO_SEQUENCE, (), (2,), (True,))]),
                ("end", [((0,), (0,), odd, 9) for odd in (*NO_WHOLE, -3, 3)]),
                ("speaker", [((0,), (0,), 0, odd) for odd in (*NO_WHOLE, -1, 2)])):
            for stand in stands:
                self.refused(BadStand(what), is_won_foes, GOALS, stand, None)
                self.refused(BadStand(what), won_parts_foes, GOALS, stand, 9, None)
        for leap, stand in itertools.product((*NO_WHOLE, -1, 3), (good, listed(good))):
            self.refused(BadLeap(), is_won_foes, GOALS, stand, leap)
            self.refused(BadLeap(), won_parts_foes, GOALS, stand, None, leap)

    def test_leaps_hang_on_the_ladder(self):
        for ladder in range(7):
            goals = Goals.all_wanted((1, 1), ladder)
            for leap in range(8):
                if leap <= ladder:
                    self.same(is_won_foes(goals, told_first(goals), leap), True)
                else:
                    self.refused(BadLeap(), is_won_foes, goals, told_first(goals), leap)


if __name__ == "__main__":
    unittest.main()
