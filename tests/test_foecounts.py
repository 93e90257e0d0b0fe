"""[6.10]: how many kinds can be told against foes, and systems that tell them."""

import unittest

from risingcalls.beaten import beaten_by
from risingcalls.counts import told_count
from risingcalls.errors import BadKinds, BadLadder, BadLeap
from risingcalls.foecounts import foe_count, foe_counts, foe_system, least_ladder
from risingcalls.foes import is_won_foes
from risingcalls.goals import Goals
from risingcalls.systems import System
from wonworlds import has_just_needed, told_first, told_won, wins_told, words_in
from worlds import NO_WHOLE, Case


def told_foe_count(ladder, leap):
    """The count by the rule of the document, each count anew; it also speaks of ladders below the leap."""
    total = 1
    for call in range(1, ladder + 1):
        left = ladder - call
        total += 1 if left - leap < 1 else told_foe_count(max(0, left - 2 * leap - 1), leap)
    return total


class Counts(Case):
    def test_the_rule(self):
        for ladder in range(14):
            for leap in range(ladder + 1):
                self.same(foe_count(ladder, leap), told_foe_count(ladder, leap))

    def test_the_least_and_the_greatest_leaps(self):
        for ladder in (0, 1, 2, 7, 30, 199, 200):
            self.same(foe_count(ladder, 0), told_count(ladder))
            self.same(foe_count(ladder, ladder), ladder + 1)

    def test_as_many_kinds_as_win_their_goals(self):
        for ladder in range(7):
            for leap in range(ladder + 1):
                for others in (1, 2):
                    for kinds in range(1, 7):
                        goals = Goals.all_wanted((kinds, others), ladder, (False, True))
                        self.same(is_won_foes(goals, told_first(goals), leap), kinds <= foe_count(ladder, leap))

    def test_as_many_as_all_partings_let(self):
        for ladder, leap in ((0, 0), (1, 0), (1, 1), (2, 0), (2, 1), (2, 2), (3, 1), (3, 2)):
            for kinds in (1, 2, 3, 4):
                goals = Goals.all_wanted((kinds, 1), ladder, (False, True))
                self.same(told_won(goals, leap)[told_first(goals)], kinds <= foe_count(ladder, leap))

    def test_all_leaps_of_a_ladder(self):
        for ladder in (0, 1, 2, 5, 6, 12, 59, 60):
            counts = foe_counts(ladder)
            self.same(counts, tuple(foe_count(ladder, leap) for leap in range(ladder + 1)))
            self.assertEqual(sorted(counts, reverse=True), list(counts))
        self.same(foe_counts(0), (1,))
        self.same(foe_counts(2), (3, 3, 3))
        self.same(foe_counts(3), (5, 4, 4, 4))
        self.same(foe_counts(6), (21, 10, 7, 7, 7, 7, 7))

    def test_the_least_ladder(self):
        for leap in (0, 1, 2, 3, 7, 59, 60):
            for kinds in (1, 2, 3, 5, 8, 9, 40, 59, 60):
                ladder = least_ladder(kinds, leap)
                self.assertIs(type(ladder), int)
                self.assertGreaterEqual(ladder, leap)
                self.assertGreaterEqual(foe_count(ladder, leap), kinds)
                if ladder > leap:
                    self.assertLess(foe_count(ladder - 1, leap), kinds)

    def test_errors(self):
        for odd in (*NO_WHOLE, -1, 201):
            self.refused(BadLadder(), foe_count, odd, None)
        for odd in (*NO_WHOLE, -1, 61):
            self.refused(BadLadder(), foe_counts, odd)
            self.refused(BadLeap(), least_ladder, None, odd)
        for ladder in (0, 3, 200):
            for odd in (*NO_WHOLE, -1, ladder + 1):
                self.refused(BadLeap(), foe_count, ladder, odd)
        for odd in (*NO_WHOLE, -1, 0, 61):
            self.refused(BadKinds(), least_ladder, odd, 0)


class Systems(Case):
    def test_each_number_of_kinds_is_told(self):
        for ladder in range(6):
            for leap in range(ladder + 1):
                for kinds in range(1, min(6, foe_count(ladder, leap)) + 1):
                    system = foe_system(kinds, ladder, leap)
                    self.assertIs(type(system), System)
                    self.same((system.sides, system.ladder, system.foes), ((kinds, 1), ladder, True))
                    goals = Goals.all_wanted((kinds, 1), ladder, (False, True))
                    self.assertIsNone(beaten_by(goals, system, leap))
                    if ladder < 4:
                        self.assertTrue(wins_told(goals, words_in(system), True, leap))
                    self.assertTrue(has_just_needed(words_in(system), (kinds, 1), ladder, True, leap))

    def test_the_greatest_ladder(self):
        for leap in range(7):
            goals = Goals.all_wanted((6, 1), 6, (False, True))
            self.assertIsNone(beaten_by(goals, foe_system(6, 6, leap), leap))

    def test_errors_in_their_order(self):
        for odd in (*NO_WHOLE, -1, 7):
            self.refused(BadLadder(), foe_system, None, odd, None)
        for odd in (*NO_WHOLE, -1, 4):
            self.refused(BadLeap(), foe_system, None, 3, odd)
        for odd in (*NO_WHOLE, -1, 0, 5, 7):
            self.refused(BadKinds(), foe_system, odd, 3, 1)
        self.refused(BadKinds(), foe_system, 2, 0, 0)
        self.refused(BadKinds(), foe_system, 7, 6, 0)


if __name__ == "__main__":
    unittest.main()
