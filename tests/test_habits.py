"""[9.1] to [9.3]: habits, their systems, and systems that are some habit's."""

import itertools
import random
import unittest

from habitworlds import drawn_habit, drawn_lines, every_habit, needed_words, spoken_words, words_let_at
from risingcalls.errors import BadHabit, BadKind, BadSide, HasFoes
from risingcalls.habits import Habit, TwoWords, asked_entries, habit_of, system_of_habit, tidied
from risingcalls.heard import gaps_of
from risingcalls.systems import System
from risingcalls.talks import Gap
from wonworlds import has_just_needed, words_in
from worlds import ALL_SIDES, NO_SEQUENCE, NO_WHOLE, Case, answers_in, in_order, listed, random_words, spoil, told_talk

WORLDS = [((1, 1), 0), ((1, 1), 3), ((2, 1), 2), ((1, 2), 3), ((2, 2), 4), ((3, 2), 3), ((2, 3), 5), ((1, 2), 6)]
TINY = [((1, 1), 0), ((1, 1), 1), ((1, 1), 2), ((2, 1), 1), ((1, 2), 1), ((2, 2), 1), ((1, 1), 3), ((2, 1), 2)]


def talk_entries(habit):
    """(side, kind, standing) of all words of all couples' talks."""
    words = spoken_words(habit)
    found = set()
    for couple in itertools.product(range(habit.sides[0]), range(habit.sides[1])):
        row = told_talk(words, habit.ladder, False, couple, ())[1]
        found |= {(at % 2, couple[at % 2], max(row[:at], default=0)) for at in range(len(row))}
    return tuple(sorted(found))


class Making(Case):
    def test_all_sides_and_ladders(self):
        rng = random.Random(901)
        for sides in ALL_SIDES:
            for ladder in range(7):
                east, west = drawn_lines(rng, sides[0], ladder), drawn_lines(rng, sides[1], ladder)
                habit = Habit(list(sides), ladder, east, west)
                self.same((habit.sides, habit.ladder), (sides, ladder))
                self.same(habit.east_words, tuple(tuple(line) for line in east))
                self.same(habit.west_words, tuple(tuple(line) for line in west))
                for side, lines in enumerate((east, west)):
                    for kind in range(sides[side]):
                        for standing in range(ladder + 1):
                            self.same(habit.word_at(side, kind, standing), lines[kind][standing])
                spoil(east)
                spoil(west)
                self.assertEqual(len(habit.east_words), sides[0])

    def test_sides_ladder_east_words_west_words(self):
        for odd in (*NO_SEQUENCE, (), (1,), (1, 1, 1), (0, 1), (7, 1), (4, 4), (True, 1)):
            self.refused(BadHabit("sides"), Habit, odd, None, None, None)
        for odd in (*NO_WHOLE, -1, 7):
            self.refused(BadHabit("ladder"), Habit, (1, 1), odd, None, None)
        good = [[1, 0]]
        lines = [*NO_SEQUENCE, (), (0,), (0, 0, 0), (2, 0), (1, 1), (-1, 0), (True, 0), (None, 0), (0, "0"), (0, (0,))]
        for odd in (*NO_SEQUENCE, (), [[0, 0]] * 3, *[[line, [0, 0]] for line in lines], *[[[0, 0], line] for line in lines]):
            self.refused(BadHabit("east_words"), Habit, (2, 1), 1, odd, None)
            self.refused(BadHabit("west_words"), Habit, (1, 2), 1, good, odd)
        # a call may be said only above what stands
        for ladder in (0, 1, 2, 3):
            for standing in range(ladder + 1):
                for word in range(-1, 5):
                    line = [0] * (ladder + 1)
                    line[standing] = word
                    if word in words_let_at(ladder, standing):
                        self.same(Habit((1, 1), ladder, [line], [line]).west_words, (tuple(line),))
                    else:
                        self.refused(BadHabit("east_words"), Habit, (1, 1), ladder, [line], [line])

    def test_equality(self):
        habit = Habit((1, 1), 1, [[1, 0]], [[0, 0]])
        self.assertTrue(habit == Habit([1, 1], 1, (((1, 0)),), ((0, 0),)))
        self.unequal_to_all(habit, [Habit((1, 1), 1, [[0, 0]], [[0, 0]]), Habit((1, 1), 1, [[1, 0]], [[1, 0]]),
                                    Habit((1, 1), 0, [[0]], [[0]]), Habit((1, 2), 1, [[1, 0]], [[0, 0]] * 2), None])
        self.unequal_to_all(TwoWords(0, 1, (1,), (2,)), [
            TwoWords(1, 1, (1,), (2,)), TwoWords(0, 0, (1,), (2,)), TwoWords(0, 1, (3,), (2,)),
            TwoWords(0, 1, (1,), (1,)), (0, 1, (1,), (2,))])
        self.assertTrue(TwoWords(0, 1, (1,), (2,)) == TwoWords(0, 1, (1,), (2,)))
        thing = [1]
        self.assertIs(TwoWords(0, 1, 2, thing).other_row, thing)

    def test_with_word(self):
        rng = random.Random(902)
        for sides, ladder in WORLDS:
            habit = drawn_habit(rng, sides, ladder)
            before = (habit.east_words, habit.west_words)
            for side in (0, 1):
                for kind in range(sides[side]):
                    for standing in range(ladder + 1):
                        for word in (*NO_WHOLE, *range(-1, 8)):
                            if type(word) is not int or word not in words_let_at(ladder, standing):
                                self.refused(BadHabit("word"), habit.with_word, side, kind, standing, word)
                                continue
                            lines = [listed(habit.east_words), listed(habit.west_words)]
                            lines[side][kind][standing] = word
                            self.assertTrue(habit.with_word(side, kind, standing, word) == Habit(sides, ladder, *lines))
            self.same((habit.east_words, habit.west_words), before)

    def test_errors_of_words_in_their_order(self):
        habit = Habit((2, 3), 2, [[0, 0, 0]] * 2, [[0, 0, 0]] * 3)
        for work in (habit.word_at, lambda *args: habit.with_word(*args, None)):
            for odd in (*NO_WHOLE, -1, 2):
                self.refused(BadSide(), work, odd, None, None)
            for side, kinds in ((0, 2), (1, 3)):
                for odd in (*NO_WHOLE, -1, kinds):
                    self.refused(BadKind(), work, side, odd, None)
            for odd in (*NO_WHOLE, -1, 3):
                self.refused(BadHabit("standing"), work, 1, 2, odd)


class Systems(Case):
    def test_system_entries_and_tidied(self):
        rng = random.Random(903)
        for sides, ladder in WORLDS:
            for _ in range(25):
                habit = drawn_habit(rng, sides, ladder)
                needed = needed_words(spoken_words(habit), sides, ladder)
                system = system_of_habit(habit)
                self.same((system.sides, system.ladder, system.foes), (sides, ladder, False))
                self.same(system.answers, in_order(needed))
                self.assertTrue(has_just_needed(words_in(system), sides, ladder))
                entries = talk_entries(habit)
                self.same(asked_entries(habit), entries)
                tidy = tidied(habit)
                for side, lines in enumerate((tidy.east_words, tidy.west_words)):
                    for kind, line in enumerate(lines):
                        for standing, word in enumerate(line):
                            asked = (side, kind, standing) in entries
                            self.same(word, habit.word_at(side, kind, standing) if asked else 0)
                self.assertTrue(tidied(tidy) == tidy)
                self.assertTrue(habit_of(system) == tidy)

    def test_systems_are_equal_exactly_if_the_tidied_habits_are(self):
        for sides, ladder in [((1, 1), 1), ((1, 1), 2), ((2, 1), 1), ((1, 2), 1)]:
            habits = list(every_habit(sides, ladder))
            pairs = [(system_of_habit(habit), tidied(habit)) for habit in habits]
            for one, other in itertools.product(pairs, repeat=2):
                self.same(one[0] == other[0], one[1] == other[1])


class OfSystems(Case):
    def told(self, system):
        """The fields of the first two words, or of the habit."""
        words = needed_words(words_in(system), system.sides, system.ladder)
        firsts = {}
        for row, kind, word in in_order(words):
            place = (len(row) % 2, kind, max(row, default=0))
            if place in firsts and firsts[place][1] != word:
                return TwoWords(place[0], kind, row, firsts[place][0])
            firsts.setdefault(place, (row, word))
        lines = [[[firsts.get((side, kind, standing), ((), 0))[1] for standing in range(system.ladder + 1)]
                  for kind in range(system.sides[side])] for side in (0, 1)]
        return Habit(system.sides, system.ladder, *lines)

    def test_drawn_systems(self):
        rng = random.Random(904)
        counts = {Habit: 0, TwoWords: 0, Gap: 0}
        for sides, ladder in [*WORLDS, ((2, 2), 5), ((3, 3), 4)]:
            for at in range(120):
                words = random_words(rng, sides, ladder, False, rng.choice((0.8, 1.0, 1.0)), rng.choice((0.0, 0.6)))
                if at % 2:
                    # a system that is nearly a habit's, with needless answers
                    words = spoken_words(drawn_habit(rng, sides, ladder))
                    if at % 4 == 3:
                        row, kind = rng.choice(list(words))
                        words[row, kind] = 0
                system = System(sides, ladder, answers_in(words))
                gaps = gaps_of(system)
                wanted = gaps[0] if gaps else self.told(system)
                found = habit_of(system)
                self.same(found, wanted)
                counts[type(found)] += 1
        self.assertGreater(min(counts.values()), 4)

    def test_no_habit_of_all_has_the_needed_answers(self):
        rng = random.Random(905)
        counts = {True: 0, False: 0}
        # two rows share a standing call and a speaker from the ladder 4 on
        for sides, ladder in [*TINY, ((1, 1), 4)]:
            told = {system_of_habit(habit).answers for habit in every_habit(sides, ladder, asked=True)}
            for _ in range(30):
                words = random_words(rng, sides, ladder, False)
                needed = in_order(needed_words(words, sides, ladder))
                found = habit_of(System(sides, ladder, answers_in(words)))
                self.same(isinstance(found, Habit), needed in told)
                counts[needed in told] += 1
                if isinstance(found, Habit):
                    self.same(system_of_habit(found).answers, needed)
        self.assertGreater(counts[True], 100)

    def test_two_words_by_hand(self):
        system = System((2, 1), 4, [
            ((), 0, 3), ((), 1, 1), ((1,), 0, 2), ((3,), 0, 4), ((1, 2), 1, 3), ((3, 4), 0, 0), ((1, 2, 3), 0, 0)])
        self.same(habit_of(system), TwoWords(1, 0, (1, 2, 3), (3,)))
        again = system.with_answer((1, 2, 3), 0, 4).with_answer((1, 2, 3, 4), 1, 0)
        self.same(habit_of(again).west_words, ((0, 2, 0, 4, 0),))
        self.same(habit_of(system.without_answer((1, 2, 3), 0)), Gap((1, 2, 3), 0))

    def test_foes(self):
        self.refused(HasFoes(), habit_of, System((1, 1), 1, [], True))


if __name__ == "__main__":
    unittest.main()
