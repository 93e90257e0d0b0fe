"""[10.5] to [10.8]: what is won with slips."""

import itertools
import random
import unittest

from risingcalls.deciding import Lost, Won, decide_goals
from risingcalls.errors import BadMost, BadSlipStand, TooWide
from risingcalls.goals import Goals
from risingcalls.judging import system_fault
from risingcalls.slipwins import (
    decide_slips, first_slip_stand, is_slip_won, most_slips, slip_fault, slip_table_fault,
)
from risingcalls.systems import System
from slipworlds import told_slip_fault
from wonworlds import drawn_goals, every_system, many_drawn, words_in
from worlds import ALL_SIDES, NO_SEQUENCE, NO_WHOLE, Case, answers_in, listed, random_words

WORLDS = [((1, 1), 0), ((1, 1), 3), ((2, 1), 2), ((2, 1), 4), ((1, 2), 3), ((2, 2), 3), ((3, 2), 2), ((1, 3), 4),
          ((3, 3), 1)]
TINY = [((1, 1), 1), ((1, 1), 2), ((2, 1), 1), ((1, 2), 1), ((2, 2), 1), ((1, 1), 3), ((2, 1), 2)]


def is_let(sides, ladder):
    return max(sides) <= 3 and (ladder < 4 or (ladder == 4 and sum(sides) <= 4))


# Slip stands, by the words of [10.6] and [10.7].


def left_in(stand, most):
    return [(east, west) for east, slips in enumerate(stand[0]) for west, more in enumerate(stand[1])
            if slips + more <= most]


def is_told_stand(goals, stand, most):
    """Whether a slip stand of the right form is one: some couple is left, and others have most + 1."""
    left = left_in(stand, most)
    for side in (0, 1):
        for kind, number in enumerate(stand[side]):
            if number != most + 1 and kind not in [couple[side] for couple in left]:
                return False
    return bool(left)


def told_behind(stand, given, word, most):
    """(numbers of east, numbers of west) behind a word, None if it cannot come; given maps kinds to words."""
    numbers = [list(stand[0]), list(stand[1])]
    side = stand[3]
    for kind in range(len(numbers[side])):
        if kind in given and given[kind] == word:
            continue
        if kind in given and word > 0 and given[kind] > 0 and abs(given[kind] - word) == 1:
            numbers[side][kind] += 1
        else:
            numbers[side][kind] = most + 1
    left = left_in(numbers, most)
    for at in (0, 1):
        for kind in range(len(numbers[at])):
            if kind not in [couple[at] for couple in left]:
                numbers[at][kind] = most + 1
    return (tuple(numbers[0]), tuple(numbers[1])) if left else None


def told_givings(goals, stand, most):
    kinds = sorted({couple[stand[3]] for couple in left_in(stand, most)})
    for said in itertools.product([0, *range(stand[2] + 1, goals.ladder + 1)], repeat=len(kinds)):
        yield dict(zip(kinds, said))


def told_lost_word(goals, stand, given, word, most, is_lost):
    """Whether a word can come and is lost."""
    behind = told_behind(stand, given, word, most)
    if behind is None:
        return False
    if word > 0:
        return is_lost((*behind, word, 1 - stand[3]))
    left = left_in(behind, most)
    if any(stand[2] not in goals.wanted[east][west] for east, west in left):
        return True
    return any(goals.knows[side] and [one[side] for one in left].count(couple[side]) > 1
               for side in (0, 1) for couple in left)


def has_giving(goals, stand, most, is_lost):
    words = [0, *range(stand[2] + 1, goals.ladder + 1)]
    return any(not any(told_lost_word(goals, stand, given, word, most, is_lost) for word in words)
               for given in told_givings(goals, stand, most))


def told_slip_won(goals, stand, most, known):
    if stand not in known:
        known[stand] = has_giving(goals, stand, most, lambda behind: not told_slip_won(goals, behind, most, known))
    return known[stand]


def every_slip_stand(goals, most):
    numbers = range(most + 2)
    for east in itertools.product(numbers, repeat=goals.sides[0]):
        for west in itertools.product(numbers, repeat=goals.sides[1]):
            for end in range(goals.ladder + 1):
                for side in (0, 1):
                    if is_told_stand(goals, (east, west, end, side), most):
                        yield (east, west, end, side)


def told_first(goals):
    return ((0,) * goals.sides[0], (0,) * goals.sides[1], 0, 0)


class Faults(Case):
    def test_row_by_row(self):
        rng = random.Random(961)
        seen = {None: 0, "gap": 0, "end": 0, "knows": 0}
        for sides, ladder in [*WORLDS, ((1, 1), 6), ((4, 2), 2)]:
            for at in range(60):
                goals = drawn_goals(rng, sides, ladder, rng.choice((0.7, 0.95)))
                words = random_words(rng, sides, ladder, False, rng.choice((0.9, 1.0, 1.0)), rng.choice((0.0, 0.6)))
                if at % 3 == 0:
                    goals = drawn_goals(rng, sides, ladder, 1.0, rng.choice(((False, False), (False, True))))
                    result = decide_goals(goals)
                    if isinstance(result, Won):
                        words.update(words_in(result.system))
                system = System(sides, ladder, answers_in(words))
                for most in (0, 1, 2, 7):
                    wanted = told_slip_fault(goals, words, most)
                    self.same(slip_fault(goals, system, most), wanted)
                    seen[wanted and wanted[0]] += 1
                self.same(slip_fault(goals, system, 0) is None, system_fault(goals, system) is None)
        self.assertGreater(min(seen.values()), 50, seen)

    def test_errors_and_unlike_systems(self):
        goals = Goals(1, [[[0]]])
        odd = System((2, 1), 2, [], True)
        for most in (*NO_WHOLE, -1):
            self.refused(BadMost(), slip_fault, goals, odd, most)
        self.same(slip_fault(goals, odd, 0), ("sides",))
        self.same(slip_fault(goals, System((1, 1), 2, [], True), 0), ("ladder",))
        self.same(slip_fault(goals, System((1, 1), 1, [], True), 0), ("foes",))
        self.same(slip_fault(goals, System((1, 1), 1, []), 0), ("gap", (), 0))

    def test_by_hand(self):
        system = System((2, 1), 3, [((), 0, 1), ((), 1, 3), ((1,), 0, 0), ((3,), 0, 0), ((2,), 0, 0)])
        goals = Goals(3, [[[1, 2]], [[2, 3]]], (True, False))
        self.same(slip_fault(goals, system, 1), None)
        self.same(slip_fault(Goals(3, [[[1]], [[2, 3]]]), system, 1), ("end", (2, 0), (0, 0)))
        self.same(slip_fault(Goals(3, [[[1, 2]], [[2, 3]]], (False, True)), system, 1), ("knows", (2, 0), (0, 0), 1))
        self.same(slip_fault(goals, system.without_answer((2,), 0), 1), ("gap", (2,), 0))
        self.same(slip_fault(goals, system.without_answer((2,), 0), 0), None)


class Winning(Case):
    def test_no_system_of_all_wins_where_the_first_slip_stand_is_lost(self):
        counts = {True: 0, False: 0}
        for sides, ladder in TINY:
            systems = list(every_system(sides, ladder))
            for goals in many_drawn(962, [(sides, ladder)], shares=(0.4, 0.7)):
                for most in (0, 1, 2):
                    truth = any(told_slip_fault(goals, words, most) is None for words in systems)
                    self.same(is_slip_won(goals, first_slip_stand(goals), most), truth)
                    counts[truth] += 1
        self.assertGreater(min(counts.values()), 50)

    def test_every_slip_stand(self):
        rng = random.Random(963)
        counts = {True: 0, False: 0}
        for sides, ladder, most in [((1, 1), 2, 3), ((2, 1), 2, 1), ((1, 2), 2, 2), ((2, 2), 2, 1), ((2, 1), 4, 1),
                                    ((3, 1), 2, 1), ((2, 2), 1, 0), ((1, 2), 3, 0)]:
            for knows in ((False, False), (False, True), (True, True)):
                goals = drawn_goals(rng, sides, ladder, 0.8, knows)
                known = {}
                for stand in every_slip_stand(goals, most):
                    wanted = told_slip_won(goals, stand, most, known)
                    counts[wanted] += 1
                    if rng.random() < 0.2:
                        self.same(is_slip_won(goals, listed(stand), most), wanted)
                    else:
                        self.same(is_slip_won(goals, stand, most), wanted)
        self.assertGreater(min(counts.values()), 300)

    def test_with_0_slips_as_in_plain_talks_and_with_fewer_what_is_won_with_more(self):
        seen = set()
        for goals in many_drawn(964, WORLDS, shares=(0.7, 0.9, 1.0)):
            won = [is_slip_won(goals, first_slip_stand(goals), most) for most in range(4)]
            self.same(won[0], isinstance(decide_goals(goals), Won))
            self.same(won, sorted(won, reverse=True))
            wanted = max((most for most in range(4) if won[most]), default=None)
            self.same(most_slips(goals), wanted)
            seen.add(wanted)
        self.assertGreaterEqual(seen, {None, 0, 3})

    def test_most_slips_between_none_and_all(self):
        for knows, wanted in (((False, True), [[[1, 3]], [[1, 2, 3, 4]]]), ((True, True), [[[1, 3]], [[0, 1, 2, 3, 4]]])):
            goals = Goals(4, wanted, knows)
            self.same(most_slips(goals), 1)
            for most in range(4):
                self.same(told_slip_won(goals, told_first(goals), most, {}), most < 2)


class Deciding(Case):
    def test_won_or_lost(self):
        counts = {Won: 0, Lost: 0}
        for goals in many_drawn(965, WORLDS, shares=(0.7, 0.95)):
            for most in range(4):
                result = decide_slips(goals, most)
                counts[type(result)] += 1
                self.same(isinstance(result, Won), is_slip_won(goals, first_slip_stand(goals), most))
                if isinstance(result, Won):
                    self.assertIs(type(result.system), System)
                    self.assertIsNone(told_slip_fault(goals, words_in(result.system), most))
                    self.assertIsNone(slip_fault(goals, result.system, most))
                else:
                    self.assertIs(type(result.stands), tuple)
                    self.assertEqual(len(set(result.stands)), len(result.stands))
                    self.assertIsNone(slip_table_fault(goals, most, result.stands))
                    self.same(self.told_fault(goals, most, result.stands), None)
        self.assertGreater(min(counts.values()), 50)

    def told_fault(self, goals, most, stands):
        """The fault of a table of slip stands."""
        if told_first(goals) not in stands:
            return "first"
        table = set(stands)
        return "leak" if any(has_giving(goals, stand, most, lambda behind: behind in table) for stand in table) else None

    def test_tables_that_are_spoilt(self):
        rng = random.Random(966)
        seen = {None: 0, "first": 0, "leak": 0}
        for sides, ladder, most in [((1, 1), 2, 1), ((2, 1), 2, 1), ((1, 2), 2, 2), ((2, 2), 1, 1), ((2, 1), 3, 1)]:
            for _ in range(25):
                goals = drawn_goals(rng, sides, ladder, 0.6)
                every = list(every_slip_stand(goals, most))
                result = decide_slips(goals, most)
                stands = list(result.stands) if isinstance(result, Lost) else rng.sample(every, min(5, len(every)))
                for change in ("none", "gone", "more", "all"):
                    spoilt = list(stands)
                    if change == "gone":
                        spoilt.pop(rng.randrange(len(spoilt)))
                    if change == "more":
                        spoilt += [rng.choice(every), spoilt[0]]
                    if change == "all":
                        spoilt = every
                    if change != "none":
                        rng.shuffle(spoilt)
                    wanted = self.told_fault(goals, most, spoilt)
                    self.same(slip_table_fault(goals, most, spoilt), wanted)
                    self.same(slip_table_fault(goals, most, listed(spoilt)), wanted)
                    seen[wanted] += 1
                    if wanted is None:
                        self.assertIs(type(result), Lost)
        self.assertGreater(min(seen.values()), 20)

    def test_stands_that_are_none(self):
        goals = Goals(1, [[[-1]]])
        first = ((0,), (0,), 0, 0)
        behind = ((0,), (0,), 1, 1)
        self.same(slip_table_fault(goals, 0, [first, behind]), None)
        for odd in NO_SEQUENCE:
            self.same(slip_table_fault(goals, 0, odd), "stand")
            self.same(slip_table_fault(goals, 0, [first, odd]), "stand")
        self.same(slip_table_fault(goals, 0, [behind, ((1,), (0,), 0, 0)]), "stand")
        self.same(slip_table_fault(goals, 0, [behind]), "first")
        self.same(slip_table_fault(goals, 0, []), "first")
        self.same(slip_table_fault(goals, 0, [first]), "leak")


class Stands(Case):
    def test_the_first_one(self):
        for sides in ALL_SIDES:
            for ladder in (0, 6):
                goals = Goals.all_wanted(sides, ladder)
                self.same(first_slip_stand(goals), told_first(goals))

    def test_all_numbers(self):
        goals = Goals.all_wanted((2, 1), 1)
        for most in (0, 1, 2):
            for numbers in itertools.product(range(-1, most + 3), repeat=3):
                stand = (numbers[:2], numbers[2:], 0, 0)
                if min(numbers) >= 0 and max(numbers) <= most + 1 and is_told_stand(goals, stand, most):
                    self.same(is_slip_won(goals, stand, most), True)
                else:
                    self.refused(BadSlipStand(), is_slip_won, goals, stand, most)

    def test_other_values(self):
        goals = Goals.all_wanted((2, 1), 1)
        for odd in (*NO_SEQUENCE, (), ((0, 0), (0,), 0), ((0, 0), (0,), 0, 0, 0)):
            self.refused(BadSlipStand(), is_slip_won, goals, odd, 0)
        for odd in (*NO_SEQUENCE, (), (0,), (0, 0, 0), (0, True), (0, None), (0, "0")):
            self.refused(BadSlipStand(), is_slip_won, goals, (odd, (0,), 0, 0), 0)
        for odd in (*NO_SEQUENCE, (), (0, 0), (False,), (None,)):
            self.refused(BadSlipStand(), is_slip_won, goals, ((0, 0), odd, 0, 0), 0)
        for odd in (*NO_WHOLE, -1, 2):
            self.refused(BadSlipStand(), is_slip_won, goals, ((0, 0), (0,), odd, 0), 0)
            self.refused(BadSlipStand(), is_slip_won, goals, ((0, 0), (0,), 0, odd), 0)

    def test_most_then_too_wide_then_the_stand(self):
        works = [lambda goals, most: is_slip_won(goals, None, most), decide_slips,
                 lambda goals, most: slip_table_fault(goals, most, None)]
        for sides in ALL_SIDES:
            for ladder in range(7):
                goals = Goals.all_wanted(sides, ladder)
                wide = not is_let(sides, ladder)
                if wide:
                    self.refused(TooWide(), most_slips, goals)
                for work in works:
                    for odd in (None, True, -1, "1"):
                        self.refused(BadMost(), work, goals, odd)
                    for most in (4, 10 ** 9):
                        self.refused(TooWide(), work, goals, most)
                    if wide:
                        self.refused(TooWide(), work, goals, 0)
        self.refused(BadSlipStand(), is_slip_won, Goals.all_wanted((1, 1), 4), None, 3)
        self.same(slip_table_fault(Goals.all_wanted((1, 1), 4), 3, None), "stand")

    def test_the_widest_answer(self):
        rng = random.Random(967)
        for sides, ladder in (((3, 3), 3), ((2, 2), 4), ((3, 1), 4), ((1, 3), 4)):
            for share in (0.7, 0.9, 1.0):
                for most in range(4):
                    goals = drawn_goals(rng, sides, ladder, share)
                    result = decide_slips(goals, most)
                    if isinstance(result, Won):
                        self.assertIsNone(slip_fault(goals, result.system, most))
                    else:
                        self.assertIsNone(slip_table_fault(goals, most, result.stands))
            self.same(most_slips(Goals.all_wanted(sides, ladder)), 3)


if __name__ == "__main__":
    unittest.main()
