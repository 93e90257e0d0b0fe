"""[5.4]: systems that tell west every kind of east, and their judge."""

import itertools
import random
import unittest

from risingcalls.counts import told_within
from risingcalls.deciding import Won, decide_goals
from risingcalls.errors import BadEnds, BadKinds, BadLadder, BadWords, HasFoes
from risingcalls.goals import Goals
from risingcalls.systems import System
from risingcalls.tellers import tell_fault, tell_system
from test_counts import drawn_ends
from wonworlds import has_just_needed, needed_systems, words_in
from worlds import ALL_SIDES, NO_SEQUENCE, NO_WHOLE, Case, answers_in, lots_by_words, random_words, told_talk


def told_fault(words, sides, ladder, ends, most, both):
    """What is wrong first, couple by couple, from the talks themselves."""
    for couple in itertools.product(range(sides[0]), range(sides[1])):
        talk = told_talk(words, ladder, False, couple, ())
        if talk[0] == "gap":
            return talk[:3]
        row = talk[1]
        lots = lots_by_words(words, sides, row, False)
        if most is not None and len(row) > most:
            return ("words", couple)
        if ends is not None and max(row) not in ends:
            return ("end", couple)
        if both and len(lots[1]) > 1:
            return ("knows", couple, 0)
        if len(lots[0]) > 1:
            return ("knows", couple, 1)
    return None


class Telling(Case):
    def held(self, kinds, ladder, others, ends, words):
        system = tell_system(kinds, ladder, others, ends=ends, words=words)
        self.assertIs(type(system), System)
        self.same((system.sides, system.ladder, system.foes), ((kinds, others), ladder, False))
        told = words_in(system)
        self.assertIsNone(told_fault(told, (kinds, others), ladder, ends, words, False))
        self.assertTrue(has_just_needed(told, (kinds, others), ladder))
        self.assertIsNone(tell_fault(system, ends=ends, words=words))

    def test_as_many_as_can_be_told_and_fewer(self):
        rng = random.Random(511)
        many = {}
        for _ in range(250):
            ladder = rng.randint(0, 6)
            ends = drawn_ends(rng, ladder)
            words = rng.choice((None, *range(1, ladder + 3)))
            most = told_within(ladder, ends=ends, words=words)
            kinds = rng.choice([number for number in (most, most - 1, 1, 2) if number <= min(6, most)] or [0])
            others = rng.choice([number for number in range(1, 7) if number * kinds <= 12])
            if kinds >= 1:
                self.held(kinds, ladder, others, ends, words)
            many[min(kinds, 6)] = many.get(min(kinds, 6), 0) + 1
            if most < 6:
                self.refused(BadKinds(), tell_system, most + 1, ladder, ends=ends, words=words)
        self.assertGreaterEqual(set(many), set(range(6)))

    def test_all_sides_and_ladders_without_bounds(self):
        for kinds, others in ALL_SIDES:
            for ladder in range(7):
                if kinds <= told_within(ladder):
                    self.held(kinds, ladder, others, None, None)
                else:
                    self.refused(BadKinds(), tell_system, kinds, ladder, others)

    def test_west_is_one_kind_if_nothing_else_is_said(self):
        self.same(tell_system(2, 1).answers, (((), 0, 0), ((), 1, 1), ((1,), 0, 0)))
        self.same(tell_system(1, 0).sides, (1, 1))

    def test_errors_in_their_order(self):
        for odd in (*NO_WHOLE, -1, 7):
            self.refused(BadLadder(), tell_system, 0, odd, 0, ends=0, words=0)
        for odd in (*[odd for odd in NO_SEQUENCE if odd is not None], [2], [-1], [None], [True]):
            self.refused(BadEnds(), tell_system, 0, 1, 0, ends=odd, words=0)
        for odd in (*[odd for odd in NO_WHOLE if odd is not None], 0, -1):
            self.refused(BadWords(), tell_system, 0, 1, 0, ends=[], words=odd)
        for odd in (*NO_WHOLE, 0, -1, 7):
            self.refused(BadKinds(), tell_system, odd, 6)
            self.refused(BadKinds(), tell_system, 1, 6, odd)
        for kinds, others in itertools.product(range(1, 7), repeat=2):
            if kinds * others > 12:
                self.refused(BadKinds(), tell_system, kinds, 6, others)
        self.refused(BadKinds(), tell_system, 1, 3, ends=[])
        self.refused(BadKinds(), tell_system, 2, 6, words=1)


class Judging(Case):
    def test_drawn_systems(self):
        rng = random.Random(521)
        seen = {}
        for _ in range(1500):
            sides = rng.choice([(1, 1), (2, 1), (1, 2), (2, 2), (3, 2), (2, 3)])
            ladder = rng.randint(0, 4)
            words = random_words(rng, sides, ladder, False, rng.choice((0.9, 1.0)), rng.choice((0.0, 0.6)))
            ends = drawn_ends(rng, ladder)
            most = rng.choice((None, *range(1, ladder + 3)))
            both = rng.random() < 0.5
            wanted = told_fault(words, sides, ladder, ends, most, both)
            system = System(sides, ladder, answers_in(words))
            self.same(tell_fault(system, ends=ends, words=most, both=both), wanted)
            if not both:
                self.same(tell_fault(system, ends=ends, words=most), wanted)
            if ends is None and most is None and not both:
                self.same(tell_fault(system), wanted)
            label = wanted and (wanted[0],) + wanted[2:] * (wanted[0] == "knows")
            seen[label] = seen.get(label, 0) + 1
        self.assertEqual(set(seen), {None, ("gap",), ("words",), ("end",), ("knows", 0), ("knows", 1)})
        self.assertGreater(min(seen.values()), 10)

    def test_some_system_tells_exactly_if_there_are_no_more_kinds_than_the_count(self):
        for sides, ladder in (((1, 1), 1), ((2, 1), 1), ((2, 1), 2), ((1, 2), 1), ((3, 1), 2), ((3, 1), 1), ((2, 2), 1)):
            systems = [System(sides, ladder, answers_in(words)) for words in needed_systems(sides, ladder)]
            for words in (None, *range(1, ladder + 2)):
                for ends in (None, [], [0], [ladder], list(range(1, ladder + 1)), [0, ladder]):
                    found = any(tell_fault(system, ends=ends, words=words) is None for system in systems)
                    self.same(found, sides[0] <= told_within(ladder, ends=ends, words=words))

    def test_both_is_told_by_goals_of_which_both_sides_must_know(self):
        for sides, ladder in (((1, 2), 2), ((2, 2), 3), ((3, 2), 4), ((2, 3), 4), ((1, 1), 0)):
            result = decide_goals(Goals.all_wanted(sides, ladder, (True, True)))
            self.assertIs(type(result), Won)
            self.assertIsNone(tell_fault(result.system, both=True))
        self.same(tell_fault(tell_system(1, 2, 2), both=True), ("knows", (0, 0), 0))

    def test_needless_answers_do_no_harm(self):
        system = tell_system(3, 3, 2).with_answer((1, 2, 3), 1, 0)
        self.assertIsNone(tell_fault(system))

    def test_each_label_ahead_of_the_next(self):
        system = System((2, 2), 1, [((), 0, 1), ((), 1, 1), ((1,), 0, 0), ((1,), 1, 0)])
        self.same(tell_fault(system.without_answer((1,), 0), ends=[0], words=1, both=True), ("gap", (1,), 0))
        self.same(tell_fault(system, ends=[0], words=1, both=True), ("words", (0, 0)))
        self.same(tell_fault(system, ends=[0], words=2, both=True), ("end", (0, 0)))
        self.same(tell_fault(system, ends=[1], words=2, both=True), ("knows", (0, 0), 0))
        self.same(tell_fault(system, ends=[1], words=2), ("knows", (0, 0), 1))
        self.same(tell_fault(system.without_answer((1,), 1)), ("knows", (0, 0), 1))

    def test_errors_in_their_order(self):
        foes = System((1, 1), 1, [], True)
        plain = System((1, 1), 1, [])
        self.refused(HasFoes(), tell_fault, foes, ends=0, words=0)
        for odd in (*[odd for odd in NO_SEQUENCE if odd is not None], [2], [-1], [None], [False]):
            self.refused(BadEnds(), tell_fault, plain, ends=odd, words=0)
        for odd in (*[odd for odd in NO_WHOLE if odd is not None], 0, -1):
            self.refused(BadWords(), tell_fault, plain, words=odd)


if __name__ == "__main__":
    unittest.main()
