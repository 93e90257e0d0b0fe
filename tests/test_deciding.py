"""[4.5], [4.6]: goals decided by a system that wins or by a table, and the systems that win, counted."""

import random
import unittest

from risingcalls.deciding import Lost, Won, count_systems, decide_goals
from risingcalls.goals import Goals
from risingcalls.judging import system_fault, table_fault
from risingcalls.systems import System
from risingcalls.winning import is_won
from wonworlds import (
    TRUTHS, closed_table, drawn_goals, every_system, has_just_needed, many_drawn, needed_systems, parts_of_parting,
    stands_behind_word, told_first, told_partings, told_stop_wins, told_table_fault, told_won, wins_told, words_in,
)
from worlds import ALL_SIDES, Case

# so small that all systems can be listed
TINY = [((1, 1), 0), ((1, 1), 1), ((1, 1), 2), ((2, 1), 0), ((2, 1), 1), ((2, 1), 2), ((1, 2), 1), ((1, 2), 2),
        ((2, 2), 0), ((2, 2), 1), ((3, 1), 1), ((3, 1), 2), ((1, 3), 1), ((1, 3), 2), ((3, 2), 1), ((2, 3), 1)]
SMALL = TINY + [((1, 1), ladder) for ladder in (3, 4, 6)] + [
    ((2, 2), 2), ((2, 2), 3), ((2, 2), 4), ((2, 1), 5), ((3, 2), 2), ((2, 3), 2), ((3, 3), 1), ((4, 1), 2), ((1, 4), 3),
    ((3, 4), 1), ((6, 2), 1), ((1, 6), 2), ((5, 1), 2)]


class Deciding(Case):
    def wins(self, goals, system):
        self.assertIs(type(system), System)
        self.same((system.sides, system.ladder, system.foes), (goals.sides, goals.ladder, False))
        words = words_in(system)
        self.assertTrue(wins_told(goals, words))
        self.assertTrue(has_just_needed(words, goals.sides, goals.ladder))

    def test_won_exactly_if_the_first_stand_is_won(self):
        counts = {True: 0, False: 0}
        for goals in many_drawn(431, SMALL, many=2, shares=(0.5, 0.8, 0.95)):
            won = told_won(goals)
            first = told_first(goals)
            result = decide_goals(goals)
            counts[won[first]] += 1
            if won[first]:
                self.assertIs(type(result), Won)
                self.wins(goals, result.system)
            else:
                self.assertIs(type(result), Lost)
                self.same(result.stands, tuple(sorted(set(result.stands))))
                self.assertIsNone(told_table_fault(goals, result.stands))
                self.assertTrue(set(result.stands) <= {stand for stand in won if not won[stand]})
        self.assertGreater(min(counts.values()), 100)

    def test_all_sides_and_the_greatest_ladder(self):
        rng = random.Random(432)
        counts = {Won: 0, Lost: 0}
        for sides in ALL_SIDES:
            for knows in TRUTHS:
                goals = drawn_goals(rng, sides, 6, rng.choice((0.1, 0.9)), knows)
                result = decide_goals(goals)
                counts[type(result)] += 1
                self.same(isinstance(result, Won), is_won(goals, told_first(goals)))
                if isinstance(result, Won):
                    self.wins(goals, result.system)
                    self.assertIsNone(system_fault(goals, result.system))
                else:
                    self.assertIsNone(table_fault(goals, result.stands))
        self.assertGreater(min(counts.values()), 8)

    def test_results_keep_their_arguments(self):
        thing = [1]
        self.assertIs(Won(thing).system, thing)
        self.assertIs(Lost(thing).stands, thing)

    def test_by_hand(self):
        goals = Goals(1, [[[0]], [[1]]], (False, True))
        self.same(decide_goals(goals).system.answers, (((), 0, 0), ((), 1, 1), ((1,), 0, 0)))
        self.same(decide_goals(Goals(0, [[[0]], [[0]]], (False, True))).stands, (((0, 1), (0,), 0, 0),))
        self.same(decide_goals(Goals(0, [[[0]]])).system.answers, (((), 0, 0),))

    def test_nothing_is_changed_and_what_is_returned_is_new(self):
        for goals in (Goals(1, [[[0]], [[1]]], (False, True)), Goals(1, [[[1]], [[0]]], (True, True))):
            before = (goals.ladder, goals.wanted, goals.knows, goals.sides)
            self.assertIsNot(decide_goals(goals), decide_goals(goals))
            self.same((goals.ladder, goals.wanted, goals.knows, goals.sides), before)


class Listed(Case):
    """Worlds so small that all systems can be listed."""

    def test_won_exactly_if_one_of_all_systems_wins(self):
        counts = {True: 0, False: 0}
        for sides, ladder in [((1, 1), 1), ((1, 1), 2), ((2, 1), 1), ((1, 2), 1), ((1, 2), 2), ((2, 2), 1), ((3, 1), 1),
                              ((1, 1), 3), ((2, 1), 2)]:
            systems = list(every_system(sides, ladder))
            for goals in many_drawn(441, [(sides, ladder)], shares=(0.4, 0.7)):
                truth = any(wins_told(goals, words) for words in systems)
                self.same(isinstance(decide_goals(goals), Won), truth)
                counts[truth] += 1
        self.assertGreater(min(counts.values()), 20)

    def test_count_systems_is_how_many_win(self):
        seen = set()
        for sides, ladder in TINY:
            systems = list(needed_systems(sides, ladder))
            for goals in many_drawn(442, [(sides, ladder)], shares=(0.5, 0.75)):
                many = sum(1 for words in systems if wins_told(goals, words))
                self.same(count_systems(goals), many)
                self.same(isinstance(decide_goals(goals), Won), many > 0)
                seen.add(many)
            self.same(count_systems(Goals.all_wanted(sides, ladder)), len(systems))
        self.assertGreater(len(seen), 11)

    def test_no_table_without_a_fault_stands_beside_a_system_that_wins(self):
        rng = random.Random(443)
        counts = {True: 0, False: 0}
        for goals in many_drawn(444, [((1, 1), 1), ((1, 1), 2), ((2, 1), 1), ((1, 2), 1), ((2, 2), 1)], many=3):
            won = told_won(goals)
            stands = list(won)
            tables = [stands, closed_table(won, goals), [stand for stand in won if not won[stand]]]
            tables += [rng.sample(stands, rng.randint(1, len(stands))) for _ in range(20)]
            unfaulty = any(table_fault(goals, table) is None for table in tables)
            self.same(unfaulty, not won[told_first(goals)])
            self.same(count_systems(goals) > 0, won[told_first(goals)])
            counts[unfaulty] += 1
        self.assertGreater(min(counts.values()), 30)


class Counting(Case):
    def test_none_exactly_if_the_first_stand_is_lost(self):
        rng = random.Random(451)
        for _ in range(150):
            goals = drawn_goals(rng, rng.choice(ALL_SIDES), rng.randint(0, 6), 0.8)
            many = count_systems(goals)
            self.assertIs(type(many), int)
            self.same(many > 0, is_won(goals, told_first(goals)))

    def told(self, goals, stand):
        """The number of systems from a stand on: over all partings, the product over their parts."""
        total = 0
        for parting in told_partings(goals, stand):
            many = 1
            for word, part in parts_of_parting(stand, parting):
                if word == 0:
                    many *= told_stop_wins(goals, stand, part)
                elif many:
                    many *= self.told(goals, stands_behind_word(goals, stand, part, word, 0)[0])
            total += many
        return total

    def test_larger_goals_parting_by_parting(self):
        for goals in many_drawn(452, [((2, 2), 3), ((3, 2), 2), ((2, 3), 2), ((1, 2), 4), ((3, 1), 3)], shares=(0.9,)):
            self.same(count_systems(goals), self.told(goals, told_first(goals)))

    def test_by_hand(self):
        self.same(count_systems(Goals.all_wanted((1, 1), 0)), 1)
        # stop; 1 and stop; 1, 2 and stop; 2 and stop
        self.same(count_systems(Goals.all_wanted((1, 1), 2)), 4)
        self.same(count_systems(Goals(2, [[[2]]])), 2)
        self.same(count_systems(Goals(2, [[[-1]]])), 0)

    def test_the_greatest_goals_answer(self):
        for sides in ((3, 4), (4, 3), (2, 6), (6, 2)):
            self.assertGreater(count_systems(Goals.all_wanted(sides, 6)), 10 ** 12)


if __name__ == "__main__":
    unittest.main()
