"""[6.3], [6.4]: goals decided against foes, and the judge of tables against foes."""

import random
import unittest

from risingcalls.beaten import beaten_by, couples_beaten
from risingcalls.deciding import Lost, Won, decide_goals
from risingcalls.decidingfoes import decide_foes, foe_table_fault, least_leap
from risingcalls.errors import BadLeap
from risingcalls.foes import is_won_foes
from risingcalls.goals import Goals
from risingcalls.judging import table_fault
from risingcalls.systems import System
from wonworlds import (
    TRUTHS, closed_table, drawn_goals, has_just_needed, many_drawn, needed_systems, told_first, told_stands,
    told_table_fault, told_won, wins_told, words_in,
)
from worlds import ALL_SIDES, NO_SEQUENCE, NO_WHOLE, Case, answers_in, listed, random_words

WORLDS = [((1, 1), ladder) for ladder in range(5)] + [
    ((2, 1), 0), ((2, 1), 2), ((1, 2), 3), ((2, 2), 1), ((2, 2), 2), ((3, 2), 1), ((2, 1), 4), ((1, 3), 2)]


class Deciding(Case):
    def wins(self, goals, system, leap):
        self.assertIs(type(system), System)
        self.same((system.sides, system.ladder, system.foes), (goals.sides, goals.ladder, True))
        words = words_in(system)
        self.assertTrue(wins_told(goals, words, True, leap))
        self.assertTrue(has_just_needed(words, goals.sides, goals.ladder, True, leap))

    def test_won_exactly_if_the_first_stand_is_won(self):
        counts = {True: 0, False: 0}
        for goals in many_drawn(621, WORLDS, shares=(0.6, 0.9)):
            for leap in range(goals.ladder + 1):
                won = told_won(goals, leap)
                result = decide_foes(goals, leap)
                truth = won[told_first(goals)]
                counts[truth] += 1
                if truth:
                    self.assertIs(type(result), Won)
                    self.wins(goals, result.system, leap)
                else:
                    self.assertIs(type(result), Lost)
                    self.same(result.stands, tuple(sorted(set(result.stands))))
                    self.assertIsNone(told_table_fault(goals, result.stands, leap))
                    self.assertFalse([stand for stand in result.stands if won[stand]])
        self.assertGreater(min(counts.values()), 60)

    def test_all_sides_over_ladders_up_to_6(self):
        rng = random.Random(622)
        counts = {Won: 0, Lost: 0}
        for sides in ALL_SIDES:
            for ladder in (3, 4, 6):
                goals = drawn_goals(rng, sides, ladder, rng.choice((0.5, 0.97, 1.0)), rng.choice(TRUTHS))
                leap = rng.randint(0, ladder)
                result = decide_foes(goals, leap)
                counts[type(result)] += 1
                if isinstance(result, Won):
                    self.assertIsNone(beaten_by(goals, result.system, leap))
                    if ladder < 5:
                        self.wins(goals, result.system, leap)
                else:
                    self.assertIsNone(foe_table_fault(goals, result.stands, leap))
        self.assertGreater(min(counts.values()), 15)

    def test_won_exactly_if_one_of_all_systems_wins(self):
        counts = {True: 0, False: 0}
        for sides, ladder in [((1, 1), 0), ((1, 1), 1), ((2, 1), 1), ((1, 2), 1), ((1, 1), 2), ((2, 2), 1), ((3, 1), 1)]:
            for leap in range(min(ladder, 1) + 1):
                systems = list(needed_systems(sides, ladder, True, leap))
                for goals in many_drawn(623, [(sides, ladder)], shares=(0.5, 0.85)):
                    truth = any(wins_told(goals, words, True, leap) for words in systems)
                    self.same(isinstance(decide_foes(goals, leap), Won), truth)
                    counts[truth] += 1
        self.assertGreater(min(counts.values()), 30)

    def test_against_every_system_of_lost_goals_some_couple_is_beaten(self):
        rng = random.Random(624)
        seen = 0
        for goals in many_drawn(625, [((2, 1), 2), ((2, 2), 2), ((1, 2), 3), ((3, 2), 1)], shares=(0.7,)):
            for leap in range(goals.ladder + 1):
                if isinstance(decide_foes(goals, leap), Lost):
                    for share in (0.9, 1.0):
                        words = random_words(rng, goals.sides, goals.ladder, True, share, rng.choice((0.0, 0.6)))
                        self.assertFalse(wins_told(goals, words, True, leap))
                        system = System(goals.sides, goals.ladder, answers_in(words), True)
                        self.assertNotEqual(couples_beaten(goals, system, leap), ())
                        seen += 1
        self.assertGreater(seen, 20)

    def test_leap_0_decides_as_plain_talks_do(self):
        for goals in many_drawn(626, [((2, 2), 3), ((3, 2), 2), ((1, 4), 4)]):
            self.assertIs(type(decide_foes(goals, 0)), type(decide_goals(goals)))

    def test_by_hand(self):
        goals = Goals(1, [[[0]]])
        self.same(decide_foes(goals, 0).system, System((1, 1), 1, [((), 0, 0)], True))
        self.same(decide_foes(goals, 1).stands[0], ((0,), (0,), -1, 1))
        both = decide_foes(Goals(1, [[[0, -1]]]), 1).system
        self.same(both.answers, (((), 0, 0), ((0, 1), 0, 0)))

    def test_wrong_leaps(self):
        for ladder in range(7):
            for odd in (*NO_WHOLE, -1, ladder + 1):
                self.refused(BadLeap(), decide_foes, Goals.all_wanted((1, 1), ladder), odd)


class Leaps(Case):
    def test_least_leap_is_the_first_lost_one(self):
        seen = set()
        for goals in many_drawn(631, [((1, 1), 4), ((2, 1), 3), ((2, 2), 3), ((1, 2), 5), ((1, 1), 0), ((3, 1), 6)],
                                many=4, shares=(0.35, 0.7, 0.9)):
            truths = [is_won_foes(goals, told_first(goals), leap) for leap in range(goals.ladder + 1)]
            wanted = truths.index(False) if False in truths else None
            self.same(least_leap(goals), wanted)
            self.same(least_leap(goals) == 0, isinstance(decide_goals(goals), Lost))
            seen.add(wanted)
        self.assertGreaterEqual(seen, {None, 0, 1, 2, 3})

    def test_all_wanted_is_won_with_every_leap(self):
        for sides in ALL_SIDES:
            self.same(least_leap(Goals.all_wanted(sides, 6)), None)


class Tables(Case):
    def test_drawn_tables(self):
        rng = random.Random(641)
        seen = {None: 0, "first": 0, "leak": 0}
        for goals in many_drawn(642, [((1, 1), 2), ((2, 1), 1), ((2, 1), 2), ((1, 2), 2), ((2, 2), 1), ((1, 1), 4)], shares=(0.5, 0.8)):
            for leap in range(goals.ladder + 1):
                won = told_won(goals, leap)
                lost = [stand for stand in won if not won[stand]]
                tables = [lost, list(closed_table(won, goals, leap)), list(won), []]
                for _ in range(5):
                    tables.append([stand for stand in rng.choice((lost, list(won))) if rng.random() < 0.8])
                for table in tables:
                    rng.shuffle(table)
                    wanted = told_table_fault(goals, table, leap)
                    self.same(foe_table_fault(goals, table, leap), wanted)
                    self.same(foe_table_fault(goals, tuple(listed(table)) * 2, leap), wanted)
                    if leap == 0:
                        self.same(table_fault(goals, table), wanted)
                    seen[wanted] += 1
        self.assertGreater(min(seen.values()), 100)

    def test_tables_without_a_fault_stand_exactly_beside_lost_goals(self):
        rng = random.Random(643)
        counts = {True: 0, False: 0}
        for goals in many_drawn(644, [((1, 1), 2), ((2, 1), 1), ((1, 2), 1), ((2, 2), 1)], many=2):
            for leap in range(goals.ladder + 1):
                won = told_won(goals, leap)
                stands = list(won)
                tables = [[stand for stand in stands if not won[stand]], stands]
                tables += [rng.sample(stands, rng.randint(1, len(stands))) for _ in range(15)]
                unfaulty = any(foe_table_fault(goals, table, leap) is None for table in tables)
                self.same(unfaulty, not won[told_first(goals)])
                counts[unfaulty] += 1
        self.assertGreater(min(counts.values()), 30)

    def test_labels_in_their_order(self):
        goals = Goals(1, [[[0]]])
        first = ((0,), (0,), 0, 0)
        for odd in NO_SEQUENCE:
            self.same(foe_table_fault(goals, odd, 1), "stand")
            self.same(foe_table_fault(goals, [odd, first], 0), "stand")
        self.same(foe_table_fault(goals, [((0,), (0,), 2, 0)], 1), "stand")
        self.same(foe_table_fault(goals, [((0,), (0,), True, 0)], 1), "stand")
        self.same(foe_table_fault(goals, [], 1), "first")
        self.same(foe_table_fault(goals, [((0,), (0,), 1, 0)], 1), "first")
        self.same(foe_table_fault(goals, [first], 1), "leak")
        table = [first, ((0,), (0,), 1, 1), ((0,), (0,), -1, 1)]
        self.same(foe_table_fault(goals, table, 1), None)
        self.same(foe_table_fault(goals, table, 0), "leak")
        # the foe's call behind the stop is in the table, the stand behind east's own call is not
        self.same(foe_table_fault(goals, table[:1] + table[2:], 1), "leak")

    def test_the_greatest_tables_answer(self):
        for sides in ((3, 4), (6, 2), (2, 6)):
            goals = Goals(6, [[[0]] * sides[1]] * sides[0])
            lost = [stand for stand in told_stands(goals) if stand[2] or stand == told_first(goals)]
            self.same(foe_table_fault(goals, lost, 6), None)
            self.same(foe_table_fault(goals, lost, 0), "leak")

    def test_wrong_leaps(self):
        goals = Goals(1, [[[0]]])
        for odd in (*NO_WHOLE, -1, 2):
            self.refused(BadLeap(), foe_table_fault, goals, None, odd)


if __name__ == "__main__":
    unittest.main()
