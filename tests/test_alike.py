"""[8.1], [8.2], [8.4]: alike systems, and systems that are less than alike."""

import itertools
import random
import unittest

from risingcalls.alike import (
    Parting, are_alike, first_parting, same_ends, same_knowledge, unlike_end, unlike_lots,
)
from risingcalls.errors import NotAlike
from risingcalls.knowing import trimmed_system
from risingcalls.systems import System
from worlds import (
    Case, answers_in, lots_by_words, random_words, told_end, told_foe_words, told_speaker, told_talk, told_words,
)

WORLDS = [((1, 1), 0, False), ((2, 1), 2, False), ((2, 2), 2, False), ((1, 3), 3, False), ((3, 2), 2, False),
          ((1, 1), 2, True), ((2, 1), 1, True), ((2, 2), 2, True), ((1, 2), 3, True), ((1, 1), 4, True)]
WORKS = (first_parting, are_alike, unlike_end, same_ends, unlike_lots, same_knowledge)


def drawn_pairs(seed, many=12):
    """(sides, ladder, foes, words, other words): equal ones, nearly equal ones, and unlike ones."""
    rng = random.Random(seed)
    for sides, ladder, foes in WORLDS:
        for at in range(many):
            words = random_words(rng, sides, ladder, foes, rng.choice((0.8, 1.0)), rng.choice((0.0, 0.6)))
            other = dict(words)
            if at % 4 == 3:
                other = random_words(rng, sides, ladder, foes, 0.9)
            for _ in range(at % 4 if words else 0):
                row, kind = rng.choice(list(words))
                if rng.random() < 0.3:
                    other.pop((row, kind), None)
                else:
                    other[row, kind] = rng.choice(told_words(row, ladder))
            yield sides, ladder, foes, words, other


def couples(sides):
    return list(itertools.product(range(sides[0]), range(sides[1])))


def told_pairs(sides, ladder, foes, words, other):
    """(couple, foe words, talk, other talk), in order, but for foes' words that may not be said in either."""
    for couple in couples(sides):
        for foe_words in told_foe_words(ladder) if foes else [()]:
            talks = [told_talk(one, ladder, foes, couple, foe_words) for one in (words, other)]
            if talks[0][0] != "foe" and talks[1][0] != "foe":
                yield couple, foe_words, talks[0], talks[1]


def result_of(talk):
    return talk[:2] if talk[0] == "talk" else talk[:3]


def end_of(talk, foes):
    return told_end(talk[1], foes) if talk[0] == "talk" else None


def first_where(pairs, unlike):
    for couple, foe_words, one, other in pairs:
        if unlike(one, other):
            return (couple, foe_words)
    return None


class Alike(Case):
    def test_talk_by_talk(self):
        counts = {True: 0, False: 0}
        for sides, ladder, foes, words, other in drawn_pairs(801):
            systems = [System(sides, ladder, answers_in(one), foes) for one in (words, other)]
            pairs = list(told_pairs(sides, ladder, foes, words, other))
            first = first_where(pairs, lambda one, two: result_of(one) != result_of(two))
            found = first_parting(*systems)
            self.same(are_alike(*systems), first is None)
            counts[first is None] += 1
            # alike exactly if the needed answers are the same
            self.same(first is None, trimmed_system(systems[0]) == trimmed_system(systems[1]))
            if first is None:
                self.same(found, None)
                continue
            self.assertIs(type(found), Parting)
            self.same((found.couple, found.foe_words), first)
            self.parts(words, other, foes, ladder, found)
        self.assertGreater(min(counts.values()), 20)

    def parts(self, words, other, foes, ladder, parting):
        """Both talks come to the row, and there the speaker's kind has unlike answers, or just one."""
        row = parting.row
        side = told_speaker(row, foes)
        self.assertIn(side, (0, 1))
        for one in (words, other):
            talk = told_talk(one, ladder, foes, parting.couple, parting.foe_words)
            self.same(talk[1][:len(row)], row)
        kind = parting.couple[side]
        self.assertNotEqual(words.get((row, kind)), other.get((row, kind)))

    def test_ends_and_lots(self):
        seen = {"alike": 0, "ends": 0, "lots": 0, "both": 0, "none": 0}
        for sides, ladder, foes, words, other in drawn_pairs(802):
            systems = [System(sides, ladder, answers_in(one), foes) for one in (words, other)]
            pairs = list(told_pairs(sides, ladder, foes, words, other))
            ends = first_where(pairs, lambda one, two: end_of(one, foes) != end_of(two, foes))
            lots = first_where(pairs, lambda one, two: lots_by_words(words, sides, one[1], foes)
                               != lots_by_words(other, sides, two[1], foes))
            self.same(unlike_end(*systems), ends)
            self.same(same_ends(*systems), ends is None)
            self.same(unlike_lots(*systems), lots)
            self.same(same_knowledge(*systems), lots is None)
            if are_alike(*systems):
                self.same((ends, lots), (None, None))
                seen["alike"] += 1
            else:
                seen[{(True, True): "both", (True, False): "ends", (False, True): "lots",
                      (False, False): "none"}[ends is None, lots is None]] += 1
        # same ends and same knowledge do not make systems alike
        self.assertGreater(min(seen.values()), 0, seen)

    def test_by_hand(self):
        one = System((2, 1), 2, [((), 0, 0), ((), 1, 1), ((1,), 0, 0)])
        other = one.with_answer((1,), 0, 2)
        self.same(first_parting(one, other), Parting((1, 0), (), (1,)))
        self.same(first_parting(other, one), Parting((1, 0), (), (1,)))
        self.same(unlike_end(one, other), ((1, 0), ()))
        self.same(unlike_lots(one, other), None)
        self.same(first_parting(one, one.without_answer((1,), 0)), Parting((1, 0), (), (1,)))
        self.same(first_parting(one, one.without_answer((), 0)), Parting((0, 0), (), ()))
        # a row to which neither has an answer, and an answer that no talk uses
        gap = one.without_answer((1,), 0)
        self.same(first_parting(gap, gap.with_answer((2,), 0, 0)), None)
        self.same(are_alike(gap, gap.with_answer((2,), 0, 0)), True)

    def test_by_hand_with_foes(self):
        one = System((1, 1), 2, [((), 0, 0), ((0, 1), 0, 0), ((0, 1, 0, 2), 0, 0), ((0, 2), 0, 0)], True)
        other = one.with_answer((0, 1), 0, 2)
        self.same(first_parting(one, other), Parting((0, 0), (1,), (0, 1)))
        # (1, 2) may be said in one system alone, so it is passed over; (1,) is ahead of it anyway
        self.same(unlike_end(one, other), ((0, 0), (1,)))
        gone = one.without_answer((0, 1, 0, 2), 0)
        self.same(first_parting(one, gone), Parting((0, 0), (1, 2), (0, 1, 0, 2)))
        self.same(unlike_end(one, gone), ((0, 0), (1, 2)))
        self.same(unlike_lots(one, gone), None)

    def test_foes_words_of_the_greatest_length(self):
        # the last of six foes' words is the first that tells the two apart
        row = (0, 1, 0, 2, 0, 3, 0, 4, 0, 5, 0, 6)
        answers = [(row[:at], 0, 0) for at in range(0, 13, 2)]
        one = System((1, 1), 6, answers, True)
        other = System((1, 1), 6, answers[:-1], True)
        self.same(first_parting(one, other), Parting((0, 0), (1, 2, 3, 4, 5, 6), row))

    def test_errors_in_their_order(self):
        base = System((1, 2), 2, [])
        for work in WORKS:
            self.refused(NotAlike("sides"), work, base, System((2, 1), 1, [], True))
            self.refused(NotAlike("ladder"), work, base, System((1, 2), 1, [], True))
            self.refused(NotAlike("foes"), work, base, System((1, 2), 2, [], True))
            self.refused(NotAlike("foes"), work, System((1, 2), 2, [], True), base)

    def test_equality(self):
        parting = Parting((0, 1), (1,), (0, 1))
        self.assertTrue(parting == Parting((0, 1), (1,), (0, 1)))
        self.unequal_to_all(parting, [Parting((1, 1), (1,), (0, 1)), Parting((0, 1), (2,), (0, 1)),
                                      Parting((0, 1), (1,), (0, 2)), None, ((0, 1), (1,), (0, 1))])
        thing = [1]
        self.assertIs(Parting(1, 2, thing).row, thing)


if __name__ == "__main__":
    unittest.main()
