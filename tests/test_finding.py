"""[9.4] to [9.7]: habits that win, or the tables that bar all of them."""

import itertools
import random
import unittest

from habitworlds import drawn_habit, every_habit, needed_words, outcomes, spoken_words, suits_all
from risingcalls.deciding import Won, decide_goals
from risingcalls.errors import TooWide
from risingcalls.finding import NoHabit, choices_of, find_habit, habits_for, no_habit_fault
from risingcalls.goals import Goals
from risingcalls.habits import Habit, system_of_habit, tidied
from risingcalls.judging import system_fault
from wonworlds import (
    TRUTHS, drawn_goals, many_drawn, parts_of_parting, told_first, told_part_lost, told_partings, told_stands,
)
from worlds import ALL_SIDES, NO_SEQUENCE, Case, listed

FREE = [((1, 1), 0), ((1, 1), 2), ((2, 1), 1), ((1, 2), 2), ((2, 2), 2), ((2, 1), 3), ((1, 2), 3), ((2, 2), 3),
        ((3, 2), 2), ((2, 3), 3), ((3, 4), 1)]

# (knows, wanted) that a system wins and no habit
BEYOND_HABITS = [
    ((True, True), [[[1, 4], [0, 3]], [[1, 2, 3], [0, 4]], [[1, 2, 3], [0, 3]], [[3], [3]]]),
    ((True, True), [[[2], [2, 4]], [[4], [2, 3, 4]], [[0, 1, 3], [1, 2, 3]], [[1, 2, 3], [2, 3]]]),
    ((True, True), [[[0, 4], [1, 3, 4]], [[1, 2], [0, 3, 4]], [[3], [3]], [[1, 2], [0, 1, 2, 4]]]),
    ((False, True), [[[2], [0, 1, 2]], [[2, 4], [0, 1, 2, 3]], [[2, 3], [0, 1, 2, 4]], [[1, 2], [0, 1, 3]]]),
    ((False, True), [[[0, 1, 3], [4]], [[2, 3], [0, 1, 2, 3]], [[0, 1, 2], [1, 2]], [[1, 2, 3], [1, 2]]]),
]


def goals_of(sides, ladder, knows=(False, False)):
    return Goals.all_wanted(sides, ladder, knows)


class Choices(Case):
    def test_lesser_ladders_have_one(self):
        for sides in ALL_SIDES:
            for ladder in range(4):
                self.same(list(choices_of(goals_of(sides, ladder))), [((), ())])

    def test_ladder_4(self):
        for sides in ALL_SIDES:
            goals = goals_of(sides, 4)
            if sum(sides) > 6:
                for work in (choices_of, find_habit):
                    self.refused(TooWide(), work, goals)
                self.refused(TooWide(), no_habit_fault, goals, None)
                continue
            wanted = [(words[:sides[0]], words[sides[0]:]) for words in itertools.product((0, 4), repeat=sum(sides))]
            self.same(list(choices_of(goals)), sorted(wanted))

    def test_too_wide(self):
        for ladder in (5, 6):
            for work in (choices_of, find_habit):
                self.refused(TooWide(), work, goals_of((1, 1), ladder))
            self.refused(TooWide(), no_habit_fault, goals_of((1, 1), ladder), None)


def keeps(goals, stand, parting, choice):
    """Whether a parting keeps to the choice."""
    if goals.ladder != 4 or abs(stand[2]) != 3:
        return True
    lot = stand[stand[3]]
    return parting == tuple(choice[stand[3]][kind] for kind in lot)


def leaks(goals, choice, stands):
    """Whether some stand has a parting that keeps to the choice and no part of which is lost by the table."""
    for stand in stands:
        for parting in told_partings(goals, stand):
            if keeps(goals, stand, parting, choice) and not any(
                    told_part_lost(goals, stand, part, word, 0, lambda behind: behind in stands)
                    for word, part in parts_of_parting(stand, parting)):
                return True
    return False


class Finding(Case):
    def is_right(self, goals, habit):
        self.assertIs(type(habit), Habit)
        self.same((habit.sides, habit.ladder), (goals.sides, goals.ladder))
        self.assertTrue(tidied(habit) == habit)
        self.assertTrue(suits_all(goals, outcomes(spoken_words(habit), goals.sides, goals.ladder)))
        self.assertIsNone(system_fault(goals, system_of_habit(habit)))

    def bars(self, goals, result):
        self.assertIs(type(result), NoHabit)
        self.same([choice for choice, _ in result.tables], list(choices_of(goals)))
        for _, stands in result.tables:
            self.same(stands, tuple(sorted(set(stands))))
        self.assertIsNone(no_habit_fault(goals, result.tables))

    def test_up_to_ladder_3_exactly_if_some_system_wins(self):
        counts = {Habit: 0, NoHabit: 0}
        for goals in many_drawn(911, FREE, shares=(0.4, 0.7, 0.95)):
            result = find_habit(goals)
            self.same(isinstance(result, Habit), isinstance(decide_goals(goals), Won))
            counts[type(result)] += 1
            if isinstance(result, Habit):
                self.is_right(goals, result)
            else:
                self.bars(goals, result)
        self.assertGreater(min(counts.values()), 30)

    def test_no_habit_of_all_wins(self):
        counts = {Habit: 0, NoHabit: 0}
        for sides, ladder in [((1, 1), 3), ((2, 1), 3), ((1, 2), 3), ((2, 2), 2), ((1, 1), 4), ((2, 1), 4), ((1, 2), 4)]:
            told = sorted({outcomes(spoken_words(habit), sides, ladder)
                           for habit in every_habit(sides, ladder, asked=True)})
            for goals in many_drawn(912, [(sides, ladder)], shares=(0.15, 0.3, 0.6)):
                result = find_habit(goals)
                self.same(isinstance(result, Habit), any(suits_all(goals, found) for found in told))
                counts[type(result)] += 1
        self.assertGreater(min(counts.values()), 20)

    def test_goals_that_a_system_wins_and_no_habit(self):
        rng = random.Random(913)
        for knows, wanted in BEYOND_HABITS:
            goals = Goals(4, wanted, knows)
            self.assertIs(type(decide_goals(goals)), Won)
            result = find_habit(goals)
            self.bars(goals, result)
            for choice, stands in rng.sample(result.tables, 2):
                self.assertFalse(leaks(goals, choice, set(stands)))

    def test_ladder_4_choice_by_choice(self):
        rng = random.Random(914)
        counts = {Habit: 0, NoHabit: 0}
        for sides in ((1, 1), (2, 1), (1, 2)):
            for knows in TRUTHS:
                for share in (0.2, 0.5):
                    goals = drawn_goals(rng, sides, 4, share, knows)
                    result = find_habit(goals)
                    counts[type(result)] += 1
                    if isinstance(result, NoHabit):
                        for choice, stands in result.tables:
                            self.assertIn(told_first(goals), stands)
                            self.assertFalse(leaks(goals, choice, set(stands)))
        self.assertGreater(min(counts.values()), 3)

    def test_the_widest(self):
        for sides in ((3, 3), (4, 2), (5, 1), (1, 5)):
            self.is_right(goals_of(sides, 4), find_habit(goals_of(sides, 4)))
            goals = Goals(4, [[[-1]] * sides[1]] * sides[0])
            self.bars(goals, find_habit(goals))
        self.is_right(goals_of((3, 4), 3), find_habit(goals_of((3, 4), 3)))

    def test_equality(self):
        tables = ((((), ()), (((0,), (0,), 0, 0),)),)
        self.assertTrue(NoHabit(tables) == NoHabit(tables))
        self.unequal_to_all(NoHabit(tables), [NoHabit(()), None, tables])
        thing = [1]
        self.assertIs(NoHabit(thing).tables, thing)


class Judging(Case):
    def told_fault(self, goals, tables):
        """The fault of tables of the right choices and of stands of the goals."""
        for choice, stands in tables:
            if len(set(stands)) < len(stands):
                return "stands"
            if told_first(goals) not in stands:
                return "first"
            if leaks(goals, choice, set(stands)):
                return "leak"
        return None

    def test_tables_that_are_spoilt(self):
        rng = random.Random(921)
        seen = {None: 0, "stands": 0, "first": 0, "leak": 0}
        worlds = [((1, 1), 2), ((2, 1), 2), ((1, 2), 2), ((2, 2), 1), ((1, 1), 4), ((2, 1), 4), ((1, 2), 4)]
        for sides, ladder in worlds:
            for knows in TRUTHS[1:]:
                goals = drawn_goals(rng, sides, ladder, 0.2, knows)
                result = find_habit(goals)
                every = told_stands(goals)
                tables = [(choice, rng.sample(every, min(9, len(every)))) for choice in choices_of(goals)]
                if isinstance(result, NoHabit):
                    tables = [(choice, list(stands)) for choice, stands in result.tables]
                for change in ("none", "mixed", "gone", "more", "twice"):
                    spoilt = [(choice, list(stands)) for choice, stands in tables]
                    stands = rng.choice(spoilt)[1]
                    if change == "gone":
                        stands.pop(rng.randrange(len(stands)))
                    if change == "more":
                        stands.append(rng.choice(every))
                    if change == "twice":
                        stands.append(stands[0])
                    if change != "none":
                        rng.shuffle(stands)
                    wanted = self.told_fault(goals, spoilt)
                    self.same(no_habit_fault(goals, spoilt), wanted)
                    # the stands may be lists, the choices may not
                    self.same(no_habit_fault(goals, [[choice, listed(stands)] for choice, stands in spoilt]), wanted)
                    seen[wanted] += 1
        self.assertGreater(min(seen.values()), 4)

    def test_choices(self):
        goals = Goals(4, [[[-1]]])
        right = find_habit(goals).tables
        self.same(no_habit_fault(goals, list(right)), None)
        for odd in (*NO_SEQUENCE, (), right[1:], right + right[:1], (right[1], right[0]) + right[2:],
                    ((((False,), (0,)), right[0][1]),) + right[1:], (([(0,), (0,)], right[0][1]),) + right[1:],
                    ((([0], [0]), right[0][1]),) + right[1:], right[:3] + (None,), right[:3] + (right[3] + (1,),),
                    right[:3] + (right[3][:1],), right[:3] + ((None, ()),)):
            self.same(no_habit_fault(goals, odd), "choices")
        lesser = Goals(1, [[[-1]]])
        for odd in ([[[[], []], ()]], [[((), [])]], [(((), (), ()), ())], [(None, ())], [((), ())]):
            self.same(no_habit_fault(lesser, odd), "choices")

    def test_stands_first_leak_pair_by_pair(self):
        goals = Goals(4, [[[-1]]])
        right = list(find_habit(goals).tables)
        first = ((0,), (0,), 0, 0)
        stands = [(odd, "stands") for odd in (*NO_SEQUENCE, (None,), (((0,), (0,), 5, 0),), (first, first), (first, 0),
                                              (first, [[0], [0], 0, 0]))]
        for odd, label in stands + [((), "first"), ((((0,), (0,), 1, 0),), "first"), ((first,), "leak")]:
            for place in range(4):
                spoilt = list(right)
                spoilt[place] = (spoilt[place][0], odd)
                self.same(no_habit_fault(goals, spoilt), label)
                if place < 3:
                    # what is wrong in a later pair does not count
                    spoilt[3] = (spoilt[3][0], None)
                    self.same(no_habit_fault(goals, spoilt), label)

    def test_stands_with_a_foes_end_keep_to_the_choice_too(self):
        # where the foes' 3 stands, a kind that must stop there loses, and one that says 4 wins
        goals = Goals(4, [[[4]]])
        first = told_first(goals)
        stands = [stand for stand in told_stands(goals) if stand[2] not in (4, -4)]
        stands += [((0,), (0,), end, side) for end in (-4,) for side in (0, 1)]
        tables = [(choice, stands) for choice in choices_of(goals)]
        self.assertIn(first, stands)
        self.same(no_habit_fault(goals, tables), self.told_fault(goals, tables))
        less = [stand for stand in stands if stand != first and (abs(stand[2]) != 3 or stand[3] == 0)]
        tables = [(choice, [first, *less]) for choice in choices_of(goals)]
        self.same(no_habit_fault(goals, tables), self.told_fault(goals, tables))


class Listing(Case):
    def test_all_tidied_habits_that_win(self):
        seen = set()
        for sides, ladder in [((1, 1), 0), ((1, 1), 1), ((1, 1), 2), ((1, 1), 3), ((2, 1), 1), ((2, 1), 2), ((1, 2), 2),
                              ((2, 2), 1), ((2, 1), 0)]:
            every = []
            for habit in every_habit(sides, ladder):
                words = spoken_words(habit)
                asked = needed_words(words, sides, ladder)
                entries = {(len(row) % 2, kind, max(row, default=0)) for row, kind in asked}
                tidy = all(word == 0 or (side, kind, standing) in entries
                           for side, lines in enumerate((habit.east_words, habit.west_words))
                           for kind, line in enumerate(lines) for standing, word in enumerate(line))
                if tidy:
                    every.append((habit, outcomes(words, sides, ladder)))
            for goals in many_drawn(931, [(sides, ladder)], shares=(0.4, 0.7, 1.0)):
                wanted = [habit for habit, found in every if suits_all(goals, found)]
                wanted = sorted(wanted, key=lambda habit: (habit.east_words, habit.west_words))
                self.same(list(habits_for(goals)), wanted)
                seen.add(len(wanted))
        self.assertGreater(len(seen), 8)

    def test_the_widest(self):
        for sides, ladder in (((2, 1), 3), ((1, 2), 3), ((2, 2), 2)):
            goals = goals_of(sides, ladder)
            found = list(habits_for(goals))
            self.same([(habit.east_words, habit.west_words) for habit in found],
                      sorted({(habit.east_words, habit.west_words) for habit in found}))
            for habit in found:
                self.assertTrue(tidied(habit) == habit)
                self.assertIsNone(system_fault(goals, system_of_habit(habit)))
        rng = random.Random(932)
        for _ in range(20):
            habit = tidied(drawn_habit(rng, (2, 2), 2))
            self.assertIn((habit.east_words, habit.west_words), [(one.east_words, one.west_words) for one in found])

    def test_too_wide(self):
        for sides in ALL_SIDES:
            for ladder in range(7):
                if ladder > 3 or max(sides) > 2 or (ladder == 3 and sum(sides) > 3):
                    self.refused(TooWide(), habits_for, goals_of(sides, ladder))


if __name__ == "__main__":
    unittest.main()
