"""[6.5], [6.6]: what beats a system, and the ends that come against foes."""

import itertools
import random
import unittest

from risingcalls.beaten import Beaten, beaten_by, couples_beaten, ends_against, least_beating
from risingcalls.deciding import Won
from risingcalls.decidingfoes import decide_foes, least_leap
from risingcalls.errors import BadCouple, BadLeap, NotAlike
from risingcalls.goals import Goals
from risingcalls.judging import system_fault
from risingcalls.silence import with_silence
from risingcalls.systems import System
from risingcalls.talks import Gap, Talk, play_talk
from wonworlds import drawn_goals, many_drawn, wins_told, wrong_in
from worlds import (
    NO_SEQUENCE, NO_WHOLE, Case, answers_in, listed, lots_by_words, random_words, told_end, told_foe_words, told_talk,
)

WORLDS = [((1, 1), 0), ((1, 1), 2), ((2, 1), 2), ((1, 2), 2), ((2, 2), 2), ((2, 2), 3), ((3, 1), 3), ((1, 3), 3),
          ((2, 1), 4), ((1, 1), 5)]


def couples(sides):
    return list(itertools.product(range(sides[0]), range(sides[1])))


def talks_within(words, ladder, couple, leap):
    """(foe words, told talk) for all foes' words of [2.5] that a talk reads whole and that are of the leap."""
    found = []
    for foe_words in told_foe_words(ladder):
        talk = told_talk(words, ladder, True, couple, foe_words)
        if talk[0] == "foe" or talk[-1] < len(foe_words):
            continue
        row = talk[1]
        if all(row[at] == 0 or row[at] <= max(row[:at]) + leap for at in range(1, len(row), 2)):
            found.append((foe_words, talk))
    return found


def told_label(goals, words, couple, talk):
    """What goes wrong in a talk, None if nothing does."""
    if talk[0] == "gap":
        return "gap"
    if told_end(talk[1], True) not in goals.wanted[couple[0]][couple[1]]:
        return "end"
    lots = lots_by_words(words, goals.sides, talk[1], True)
    return "knows" if any(goals.knows[side] and len(lots[1 - side]) > 1 for side in (0, 1)) else None


def told_beaten(goals, words, leap):
    """The couples that are beaten, each with its first Beaten, talk by talk in the order of the foes' words."""
    found = []
    for couple in couples(goals.sides):
        for foe_words, talk in talks_within(words, goals.ladder, couple, leap):
            label = told_label(goals, words, couple, talk)
            if label is not None:
                found.append(Beaten(couple, foe_words, label, talk[1]))
                break
    return found


def drawn(seed, many=1, shares=(0.6, 0.9)):
    """(goals, words): systems that win or nearly do, and others."""
    rng = random.Random(seed)
    for goals in many_drawn(seed + 1, WORLDS, many, shares):
        words = random_words(rng, goals.sides, goals.ladder, True, rng.choice((0.9, 1.0, 1.0)), rng.choice((0.0, 0.6)))
        yield goals, words
        result = decide_foes(goals, rng.randint(0, goals.ladder))
        if isinstance(result, Won):
            words.update({(row, kind): word for row, kind, word in result.system.answers})
            yield goals, words


def made(goals, words):
    return System(goals.sides, goals.ladder, answers_in(words), True)


class Beating(Case):
    def test_all_foes_words_in_their_order(self):
        seen = {None: 0, "gap": 0, "end": 0, "knows": 0}
        for goals, words in drawn(651):
            system = made(goals, words)
            for leap in range(goals.ladder + 1):
                beaten = told_beaten(goals, words, leap)
                found = beaten_by(goals, system, leap)
                self.same(found, beaten[0] if beaten else None)
                self.same(couples_beaten(goals, system, leap), tuple(one.couple for one in beaten))
                self.same(found is None, wins_told(goals, words, True, leap))
                seen[found and found.label] += 1
                if found:
                    self.shown(goals, system, found)
        self.assertGreater(min(seen.values()), 20)

    def shown(self, goals, system, beaten):
        """The talk with these foes' words is the one that goes wrong."""
        talk = play_talk(system, beaten.couple, beaten.foe_words)
        self.same(talk.row, beaten.row)
        self.same(isinstance(talk, Gap), beaten.label == "gap")
        if isinstance(talk, Talk):
            self.same(talk.end not in goals.ends_for(beaten.couple), beaten.label == "end")

    def test_words_that_are_played_another_way(self):
        # the same told by a walk over rows in the place of all foes' words
        for goals, words in drawn(653, shares=(0.8,)):
            for leap in range(goals.ladder + 1):
                firsts = []
                for couple in couples(goals.sides):
                    firsts += [Beaten(couple, *one[:3]) for one in wrong_in(goals, words, couple, True, leap)[:1]]
                self.same(beaten_by(goals, made(goals, words), leap), firsts[0] if firsts else None)

    def test_least_beating(self):
        seen = set()
        for goals, words in drawn(655, many=2):
            system = made(goals, words)
            truths = [beaten_by(goals, system, leap) is not None for leap in range(goals.ladder + 1)]
            # a system beaten with a leap is beaten with every greater one
            self.same(truths, sorted(truths))
            wanted = truths.index(True) if True in truths else None
            self.same(least_beating(goals, system), wanted)
            lost = least_leap(goals)
            if lost is not None:
                self.assertLessEqual(wanted, lost)
            seen.add(wanted)
        self.assertGreaterEqual(seen, {None, 0, 1, 2, 3})

    def test_by_hand(self):
        goals = Goals(2, [[[0, -2]], [[1, 0]]])
        system = System((2, 1), 2, [((), 0, 0), ((), 1, 1), ((1, 0), 0, 0), ((0, 2), 0, 0)], True)
        self.same(beaten_by(goals, system, 0), None)
        self.same(beaten_by(goals, system, 1), Beaten((0, 0), (1,), "gap", (0, 1)))
        self.same(beaten_by(goals, system, 2), Beaten((0, 0), (1,), "gap", (0, 1)))
        self.same(couples_beaten(goals, system, 1), ((0, 0), (1, 0)))
        self.same(least_beating(goals, system), 1)
        more = system.with_answer((0, 1), 0, 0)
        self.same(beaten_by(goals, more, 2), Beaten((0, 0), (1,), "end", (0, 1, 0, 0)))
        # silent words ahead of a call are told, silent words behind the last one are not
        later = System((1, 1), 2, [((), 0, 1), ((1, 0), 0, 0), ((1, 0, 0, 2), 0, 0), ((1, 2), 0, 0)], True)
        self.same(beaten_by(Goals(2, [[[1, -2]]], (True, True)), later, 2), None)
        self.same(beaten_by(Goals(2, [[[-2]]]), later, 2), Beaten((0, 0), (), "end", (1, 0, 0, 0)))
        gap = later.without_answer((1, 0, 0, 2), 0)
        self.same(beaten_by(Goals(2, [[[1, -2]]]), gap, 1), Beaten((0, 0), (0, 2), "gap", (1, 0, 0, 2)))
        self.same(ends_against(later, (0, 0), 0), (1,))
        self.same(ends_against(later, (0, 0), 1), (-2, 1))
        self.same(ends_against(gap, (0, 0), 0), (1,))
        self.same(ends_against(gap, (0, 0), 1), Gap((1, 0, 0, 2), 0))

    def test_leap_0_is_plain_talk(self):
        rng = random.Random(657)
        for sides, ladder in [((2, 2), 3), ((3, 2), 2), ((1, 2), 4)]:
            for _ in range(30):
                goals = drawn_goals(rng, sides, ladder, 0.8)
                words = random_words(rng, sides, ladder, False, rng.choice((0.9, 1.0)))
                plain = System(sides, ladder, answers_in(words))
                self.same(beaten_by(goals, with_silence(plain), 0) is None, system_fault(goals, plain) is None)

    def test_the_greatest_systems_answer(self):
        rng = random.Random(658)
        for sides in ((3, 4), (6, 2)):
            words = random_words(rng, sides, 6, True, 1.0, 0.7)
            system = System(sides, 6, answers_in(words), True)
            self.same(least_beating(Goals.all_wanted(sides, 6), system), None)
            self.same(beaten_by(Goals.all_wanted(sides, 6), system, 6), None)
            self.same(len(couples_beaten(Goals(6, [[[-6]] * sides[1]] * sides[0]), system, 6)), 12)
            self.assertIs(type(ends_against(system, (0, 0), 6)), tuple)

    def test_equality(self):
        beaten = Beaten((0, 0), (1,), "gap", (0, 1))
        self.assertTrue(beaten == Beaten((0, 0), (1,), "gap", (0, 1)))
        self.unequal_to_all(beaten, [
            Beaten((0, 1), (1,), "gap", (0, 1)), Beaten((0, 0), (2,), "gap", (0, 1)), Beaten((0, 0), (1,), "end", (0, 1)),
            Beaten((0, 0), (1,), "gap", (0, 2)), None, ((0, 0), (1,), "gap", (0, 1)), Gap((0, 1), 0)])
        thing = [1]
        self.assertIs(Beaten(1, thing, 2, 3).foe_words, thing)

    def test_errors_in_their_order(self):
        goals = Goals(1, [[[0]]])
        odd = System((2, 1), 2, [])
        for work in (beaten_by, couples_beaten):
            for leap in (*NO_WHOLE, -1, 2):
                self.refused(BadLeap(), work, goals, odd, leap)
            self.refused(NotAlike("sides"), work, goals, odd, 1)
            self.refused(NotAlike("ladder"), work, goals, System((1, 1), 2, []), 1)
            self.refused(NotAlike("foes"), work, goals, System((1, 1), 1, []), 1)
        self.refused(NotAlike("sides"), least_beating, goals, odd)
        self.refused(NotAlike("ladder"), least_beating, goals, System((1, 1), 2, []))
        self.refused(NotAlike("foes"), least_beating, goals, System((1, 1), 1, []))


class Ends(Case):
    def test_all_foes_words(self):
        counts = {Gap: 0, tuple: 0}
        for goals, words in drawn(661, shares=(0.8,)):
            system = made(goals, words)
            for leap in range(goals.ladder + 1):
                for couple in couples(goals.sides):
                    talks = [talk for _, talk in talks_within(words, goals.ladder, couple, leap)]
                    gaps = [Gap(talk[1], talk[2]) for talk in talks if talk[0] == "gap"]
                    wanted = gaps[0] if gaps else tuple(sorted({told_end(talk[1], True) for talk in talks}))
                    self.same(ends_against(system, couple, leap), wanted)
                    self.same(ends_against(system, listed(couple), leap), wanted)
                    counts[type(wanted)] += 1
        self.assertGreater(min(counts.values()), 50)

    def test_errors_in_their_order(self):
        plain = System((2, 1), 1, [])
        for couple in (*NO_SEQUENCE, (), (0,), (2, 0), (0, 1), (0, 0, 0), (True, 0), (-1, 0)):
            self.refused(BadCouple(), ends_against, plain, couple, None)
        for leap in (*NO_WHOLE, -1, 2):
            self.refused(BadLeap(), ends_against, plain, (0, 0), leap)
        self.refused(NotAlike("foes"), ends_against, plain, (0, 0), 1)


if __name__ == "__main__":
    unittest.main()
