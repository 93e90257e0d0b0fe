"""[5.1], [5.2], [5.3]: how many kinds can be told."""

import functools
import random
import unittest

from risingcalls.counts import asked_count, least_told, told_count, told_split, told_within
from risingcalls.errors import BadEnd, BadEnds, BadKinds, BadLadder, BadWords
from risingcalls.goals import Goals
from risingcalls.winning import is_won
from wonworlds import told_first
from worlds import NO_SEQUENCE, NO_WHOLE, Case, spoil


def told_counts(ladder, ends):
    """(T, A) of [5.2], written down as the point tells them."""
    def allowed(end):
        return ends is None or end in ends

    @functools.cache
    def told(end, words):
        if words == 0:
            return 0
        return allowed(end) + sum(asked(call, words - 1) for call in range(end + 1, ladder + 1))

    @functools.cache
    def asked(end, words):
        if words == 0:
            return 0
        return max([int(allowed(end))] + [told(call, words - 1) for call in range(end + 1, ladder + 1)])

    return told, asked


def drawn_ends(rng, ladder):
    """None, or ends in any order, maybe none and some twice."""
    if rng.random() < 0.2:
        return rng.choice((None, None, []))
    ends = [end for end in range(ladder + 1) if rng.random() < rng.choice((0.3, 0.7, 1.0))]
    ends += [rng.choice(ends) for _ in range(rng.randint(0, 2)) if ends]
    rng.shuffle(ends)
    return ends


class Within(Case):
    def test_drawn_ends_and_words(self):
        rng = random.Random(501)
        nothing = 0
        for _ in range(500):
            ladder = rng.choice((0, 1, 2, 3, 4, 5, 6, 6, 9, 14))
            ends = drawn_ends(rng, ladder)
            words = rng.choice((None, *range(1, ladder + 4)))
            end = rng.randint(0, ladder)
            told, asked = told_counts(ladder, ends)
            left = ladder + 5 if words is None else words
            wanted = told(end, left)
            self.same(told_within(ladder, ends=ends, words=words, end=end), wanted)
            split = (int(ends is None or end in ends),) + tuple(
                asked(call, left - 1) for call in range(end + 1, ladder + 1))
            given = ends if ends is None or rng.random() < 0.5 else tuple(ends)
            self.same(told_split(ladder, ends=given, words=words, end=end), split)
            self.assertEqual(sum(split), wanted)
            nothing += wanted == 0
        self.assertGreater(nothing, 20)

    def test_defaults_are_no_bounds(self):
        for ladder in range(31):
            self.same(told_within(ladder), told_count(ladder))
            self.same(told_within(ladder, ends=range_list(ladder), words=ladder + 1, end=0), told_count(ladder))
            self.same(told_split(ladder), (1,) + tuple(asked_count(ladder - call) for call in range(1, ladder + 1)))

    def test_words_beyond_the_longest_talk_make_no_difference(self):
        rng = random.Random(502)
        for _ in range(60):
            ladder = rng.randint(0, 12)
            ends = drawn_ends(rng, ladder)
            for words in (ladder + 1, ladder + 2, 31, 10 ** 9):
                self.same(told_within(ladder, ends=ends, words=words), told_within(ladder, ends=ends))
                self.same(told_split(ladder, ends=ends, words=words), told_split(ladder, ends=ends))

    def test_words_by_hand(self):
        # with one word only a stop is left; with two words each call but one kind's is behind a stop of west
        self.same([told_within(4, words=words) for words in range(1, 7)], [1, 5, 5, 8, 8, 8])
        self.same(told_split(4, words=1), (1, 0, 0, 0, 0))
        self.same(told_split(4, words=2), (1, 1, 1, 1, 1))
        self.same(told_split(4), (1, 3, 2, 1, 1))
        self.same(told_split(4, end=2), (1, 1, 1))
        self.same(told_split(4, end=4), (1,))
        self.same(told_split(0), (1,))

    def test_ends_by_hand(self):
        self.same(told_within(4, ends=[]), 0)
        self.same(told_split(3, ends=()), (0, 0, 0, 0))
        self.same(told_within(4, ends=[0]), 1)
        self.same(told_within(4, ends=[4, 4]), 5)
        self.same(told_split(4, ends=(4,)), (0, 2, 1, 1, 1))
        self.same(told_within(3, ends=[1], end=2), 0)
        # if the ladder is the only end
        for ladder in range(1, 31):
            self.same(told_within(ladder, ends=[ladder]), told_count(ladder - 1))

    def test_counts_are_what_can_be_won(self):
        rng = random.Random(503)
        for ladder in range(7):
            for _ in range(12):
                ends = drawn_ends(rng, ladder) or list(range(ladder + 1))
                most = told_within(ladder, ends=ends)
                for kinds, others in ((1, 1), (2, 1), (3, 1), (4, 1), (5, 1), (6, 1), (2, 3), (3, 2), (4, 3), (1, 5)):
                    goals = Goals(ladder, [[ends] * others] * kinds, (False, True))
                    self.same(is_won(goals, told_first(goals)), kinds <= most)

    def test_the_greatest_ladder_answers(self):
        self.same(told_within(30), 2178309)
        self.same(len(told_split(30, ends=[30, 7], words=12, end=3)), 28)

    def test_nothing_is_changed(self):
        ends = [2, 0, 2]
        told_within(3, ends=ends)
        split = told_split(3, ends=ends)
        self.same(ends, [2, 0, 2])
        spoil(ends)
        self.same(split, told_split(3, ends=(0, 2)))


def range_list(ladder):
    return list(range(ladder + 1))


class Refusals(Case):
    def wrong(self, error, *args, **named):
        self.refused(error, told_within, *args, **named)
        self.refused(error, told_split, *args, **named)

    def test_each_error(self):
        for odd in (*NO_WHOLE, -1, 31):
            self.wrong(BadLadder(), odd)
        for odd in (*[odd for odd in NO_SEQUENCE if odd is not None], [3], [-1], [0, None], [True], ["0"], [0.0], [[0]]):
            self.wrong(BadEnds(), 2, ends=odd)
        for odd in (*[odd for odd in NO_WHOLE if odd is not None], 0, -1):
            self.wrong(BadWords(), 2, words=odd)
        for odd in (*NO_WHOLE, -1, 3):
            self.wrong(BadEnd(), 2, end=odd)

    def test_of_two_faults_the_first_one_counts(self):
        self.wrong(BadLadder(), 31, ends=0, words=0, end=None)
        self.wrong(BadEnds(), 2, ends=[3], words=0, end=None)
        self.wrong(BadWords(), 2, ends=[], words=0, end=None)
        self.wrong(BadEnd(), 2, ends=[], words=1, end=3)


class Counts(Case):
    def test_told_count(self):
        counts = [told_count(ladder) for ladder in range(201)]
        self.same(counts[:8], [1, 2, 3, 5, 8, 13, 21, 34])
        for ladder in range(2, 201):
            self.assertEqual(counts[ladder], counts[ladder - 1] + counts[ladder - 2])
        self.same(counts[200], 734544867157818093234908902110449296423351)

    def test_asked_count(self):
        self.same([asked_count(ladder) for ladder in range(7)], [1, 1, 2, 3, 5, 8, 13])
        self.same(asked_count(200), told_count(199))

    def test_asked_counts_are_what_can_be_won(self):
        for ladder in range(6):
            for kinds, others in ((1, 1), (1, 2), (1, 3), (1, 4), (1, 5), (1, 6), (2, 3), (2, 6), (3, 2)):
                goals = Goals.all_wanted((kinds, others), ladder, (True, False))
                self.same(is_won(goals, told_first(goals)), others <= asked_count(ladder))

    def test_least_told(self):
        self.same([least_told(kinds) for kinds in range(1, 10)], [0, 1, 2, 3, 3, 4, 4, 4, 5])
        for ladder in range(1, 201):
            self.same(least_told(told_count(ladder)), ladder)
            self.same(least_told(told_count(ladder - 1) + 1), ladder)

    def test_errors(self):
        for odd in (*NO_WHOLE, -1, 201):
            self.refused(BadLadder(), told_count, odd)
            self.refused(BadLadder(), asked_count, odd)
        for odd in (*NO_WHOLE, -1, 0, told_count(200) + 1):
            self.refused(BadKinds(), least_told, odd)


if __name__ == "__main__":
    unittest.main()
