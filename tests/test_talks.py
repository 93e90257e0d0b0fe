"""[2.8], [2.9], and Talk and Gap by [0.6]: talks."""

import itertools
import unittest

from risingcalls.errors import BadCouple, BadFoe
from risingcalls.systems import System
from risingcalls.talks import Gap, Talk, every_talk, play_talk
from worlds import (
    NO_SEQUENCE, NO_WHOLE, Case, answers_in, spoil, told_end, told_talk, told_talks, worlds,
)

SIDES = [(1, 1), (2, 1), (1, 2), (2, 2), (3, 2)]
FOES = System((2, 1), 3, [((), 0, 0), ((), 1, 1), ((0, 1), 0, 0), ((0, 2), 0, 3), ((1, 0), 0, 0),
                          ((1, 2), 0, 0), ((0, 2, 3, 0), 0, 0), ((0, 1, 0, 2), 0, 3)], True)


def told_result(talk, foes):
    return Talk(talk[1], told_end(talk[1], foes)) if talk[0] == "talk" else Gap(talk[1], talk[2])


class Results(Case):
    def test_they_keep_their_arguments_as_they_are(self):
        for value in (None, [1, [2]], (1,), "row", True):
            self.assertIs(Talk(value, 1).row, value)
            self.assertIs(Talk(1, value).end, value)
            self.assertIs(Gap(value, 1).row, value)
            self.assertIs(Gap(1, value).kind, value)

    def test_equality(self):
        self.assertTrue(Talk((1, 0), 1) == Talk((1, 0), 1))
        self.assertTrue(Gap((1,), 1) == Gap((1,), 1))
        self.unequal_to_all(Talk((1,), 1), [Talk((1,), 0), Talk((2,), 1), Talk([1], 1), Gap((1,), 1), ((1,), 1), None])
        self.unequal_to_all(Gap((1,), 1), [Gap((1,), 0), Gap((2,), 1), Gap([1], 1), Talk((1,), 1), ((1,), 1), None])


class Playing(Case):
    def test_all_couples_and_all_foes_words(self):
        kinds = set()
        for sides, ladder, foes, words in worlds(7, (0, 1, 2), SIDES):
            system = System(sides, ladder, answers_in(words), foes)
            for couple in itertools.product(range(sides[0]), range(sides[1])):
                for size in range(ladder + 2):
                    for foe_words in itertools.product(range(ladder + 2), repeat=size):
                        talk = told_talk(words, ladder, foes, couple, foe_words)
                        kinds.add((foes, talk[0]))
                        if talk[0] == "foe":
                            self.refused(BadFoe(talk[1]), play_talk, system, couple, foe_words)
                        else:
                            self.same(play_talk(system, list(couple), list(foe_words)), told_result(talk, foes))
        self.assertEqual(kinds, {(False, "talk"), (False, "gap"), (True, "talk"), (True, "gap"), (True, "foe")})

    def test_plain_talks_of_greater_ladders(self):
        for sides, ladder, foes, words in worlds(8, (3, 4, 5, 6), SIDES, foes=(False,)):
            system = System(sides, ladder, answers_in(words))
            for couple in itertools.product(range(sides[0]), range(sides[1])):
                self.same(play_talk(system, couple), told_result(told_talk(words, ladder, foes, couple, ()), False))

    def test_named_talks(self):
        self.same(play_talk(FOES, (0, 0)), Talk((0, 0), 0))
        self.same(play_talk(FOES, (0, 0), (1,)), Talk((0, 1, 0, 0), -1))
        self.same(play_talk(FOES, (0, 0), (2,)), Talk((0, 2, 3, 0, 0, 0), 3))
        self.same(play_talk(FOES, (0, 0), (1, 2)), Gap((0, 1, 0, 2, 3, 0), 0))
        self.same(play_talk(FOES, (1, 0), (0,)), Talk((1, 0, 0, 0), 1))
        self.same(play_talk(FOES, (1, 0), (3,)), Gap((1, 3), 0))

    def test_words_that_are_not_read_mean_nothing(self):
        for odd in (*NO_WHOLE, -1, 9):
            self.same(play_talk(FOES, (0, 0), (0, odd)), Talk((0, 0), 0))
            self.same(play_talk(FOES, (0, 0), [2, 0, 0, odd]), Talk((0, 2, 3, 0, 0, 0), 3))
            self.same(play_talk(FOES, (1, 0), (3, odd)), Gap((1, 3), 0))
            plain = System((1, 1), 1, [((), 0, 0)])
            self.same(play_talk(plain, (0, 0), (odd, odd)), Talk((0,), 0))

    def test_wrong_foes_words(self):
        for odd in (*NO_WHOLE, -1, 4):
            self.refused(BadFoe(0), play_talk, FOES, (0, 0), (odd,))
            self.refused(BadFoe(1), play_talk, FOES, (1, 0), [0, odd])
        self.refused(BadFoe(0), play_talk, FOES, (1, 0), (1,))
        self.refused(BadFoe(1), play_talk, FOES, (0, 0), (2, 3))
        self.refused(BadFoe(1), play_talk, FOES, (0, 0), (2, 2, None))

    def test_foes_words_are_a_sequence(self):
        plain = System((1, 1), 1, [((), 0, 0)])
        for odd in NO_SEQUENCE:
            self.refused(BadFoe(0), play_talk, FOES, (0, 0), odd)
            self.refused(BadFoe(0), play_talk, plain, (0, 0), odd)

    def test_wrong_couples_come_first(self):
        for couple in (*NO_SEQUENCE, (), (0,), (2, 0), (0, 1), (-1, 0), (True, 0), (0, None), (0, 0, 0)):
            self.refused(BadCouple(), play_talk, FOES, couple)
            self.refused(BadCouple(), play_talk, FOES, couple, None)
            self.refused(BadCouple(), play_talk, FOES, couple, (9,))
            self.refused(BadCouple(), every_talk, FOES, couple)

    def test_later_changes_have_no_effect(self):
        couple, foe_words = [0, 0], [2]
        found = play_talk(FOES, couple, foe_words)
        self.same((couple, foe_words), ([0, 0], [2]))
        spoil(couple)
        spoil(foe_words)
        self.same(found, Talk((0, 2, 3, 0, 0, 0), 3))


class EveryTalk(Case):
    def test_all_foes_words_that_are_read_whole(self):
        for sides, ladder, foes, words in worlds(9, (0, 1, 2, 3), SIDES):
            system = System(sides, ladder, answers_in(words), foes)
            for couple in itertools.product(range(sides[0]), range(sides[1])):
                wanted = [(said, told_result(talk, foes)) for said, talk in told_talks(words, ladder, foes, couple)]
                self.same(list(every_talk(system, list(couple))), wanted)

    def test_a_plain_talk_has_no_foes_words(self):
        plain = System((1, 1), 3, [((), 0, 2)])
        self.same(list(every_talk(plain, (0, 0))), [((), Gap((2,), 0))])

    def test_named_foes_words(self):
        found = [said for said, _ in every_talk(FOES, (0, 0))]
        self.same(found, [(), (1,), (2,), (3,), (1, 2), (1, 3)])

    def test_the_couple_is_read_at_the_first_item_at_the_latest(self):
        couple = [0, 0]
        talks = every_talk(FOES, couple)
        found = [next(talks)]
        spoil(couple)
        self.same(found + list(talks), list(every_talk(FOES, (0, 0))))


if __name__ == "__main__":
    unittest.main()
