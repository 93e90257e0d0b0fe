"""[2.6], [2.7]: systems."""

import itertools
import random
import unittest

from risingcalls.errors import BadSystem, NoAnswer
from risingcalls.systems import System
from worlds import (
    ALL_SIDES, NO_SEQUENCE, NO_TRUTH, NO_WHOLE, Case, answers_in, in_order, listed, partner_rows, spoil, told_rows,
    told_speaker, told_words, worlds,
)

SMALL = list(worlds(4, (0, 1, 2), [(1, 1), (2, 1), (1, 2), (2, 2)]))
ANSWERS = [((), 0, 1), ((), 1, 0), ((1,), 0, 2), ((1, 2), 0, 0)]


class Making(Case):
    def test_attributes(self):
        for sides, ladder, foes, words in SMALL:
            for answers in (answers_in(words), listed(answers_in(words))[::-1], tuple(answers_in(words))):
                system = System(list(sides), ladder, answers, foes)
                self.same(system.answers, in_order(words))
                self.same((system.sides, system.ladder, system.foes), (sides, ladder, foes))
                self.same((len(system), list(system)), (len(words), list(in_order(words))))
        self.same(System((1, 1), 0, []).foes, False)

    def test_every_single_answer_of_small_worlds(self):
        for foes in (False, True):
            for row in told_rows(2, foes) + [(3,), (1, 1), (0, 0, 0), (2, 1)]:
                speaker = told_speaker(row, foes)
                for kind in range(-1, 4):
                    for word in range(-1, 4):
                        answers = [[list(row), kind, word]]
                        if speaker is None or row in [(3,), (1, 1), (0, 0, 0), (2, 1)]:
                            self.refused(BadSystem(0, "row"), System, (2, 3), 2, answers, foes)
                        elif not 0 <= kind < (2, 3)[speaker]:
                            self.refused(BadSystem(0, "kind"), System, (2, 3), 2, answers, foes)
                        elif word not in told_words(row, 2):
                            self.refused(BadSystem(0, "word"), System, (2, 3), 2, answers, foes)
                        else:
                            self.same(System((2, 3), 2, answers, foes).answers, ((row, kind, word),))

    def test_all_sides_and_ladders(self):
        for sides in ALL_SIDES:
            for ladder in range(7):
                last = ((), sides[0] - 1, ladder)
                self.same(System(sides, ladder, [last]).sides, sides)
                self.refused(BadSystem(0, "kind"), System, sides, ladder, [((), sides[0], 0)])
                self.refused(BadSystem(0, "word"), System, sides, ladder, [((), 0, ladder + 1)])

    def test_wrong_sides(self):
        for sides in (*NO_SEQUENCE, (), (1,), (0, 1), (1, 0), (7, 1), (3, 5), (1, 1, 1), (True, 1), (1, None)):
            self.refused(BadSystem(0, "sides"), System, sides, 1, [])
            self.refused(BadSystem(0, "sides"), System, sides, None, None, None)

    def test_wrong_ladders(self):
        for ladder in (*NO_WHOLE, -1, 7):
            self.refused(BadSystem(0, "ladder"), System, (1, 1), ladder, [])
            self.refused(BadSystem(0, "ladder"), System, (1, 1), ladder, None, None)

    def test_wrong_foes(self):
        for foes in NO_TRUTH:
            self.refused(BadSystem(0, "foes"), System, (1, 1), 1, [], foes)
            self.refused(BadSystem(0, "foes"), System, (1, 1), 1, None, foes)

    def test_wrong_answers(self):
        for answers in NO_SEQUENCE:
            self.refused(BadSystem(0, "answers"), System, (1, 1), 1, answers)
        for odd in (*NO_SEQUENCE, (), ((), 0), ((), 0, 0, 0)):
            self.refused(BadSystem(0, "answer"), System, (1, 1), 1, [odd])
            self.refused(BadSystem(1, "answer"), System, (1, 1), 1, [((), 0, 0), odd, odd])
        for odd in (*NO_SEQUENCE, (0,), (2,), (True,), (None,), (1, 1), [-1]):
            self.refused(BadSystem(1, "row"), System, (1, 1), 1, [((), 0, 0), (odd, 0, 0)])
        for odd in (*NO_WHOLE, -1, 1):
            self.refused(BadSystem(1, "kind"), System, (1, 2), 1, [((1,), 1, 0), ((), odd, 0)])
        for odd in (*NO_WHOLE, -1, 2, 1):
            self.refused(BadSystem(1, "word"), System, (2, 1), 1, [((), 1, 0), ((1,), 0, odd)])

    def test_rows_at_no_partners_turn(self):
        for row in ((0, 0), (1,), (0,), (0, 1, 0), (1, 0, 0, 0)):
            self.refused(BadSystem(0, "row"), System, (1, 1), 2, [(row, 0, 0)], True)
        for row in ((0,), (1, 0), (1, 2, 0)):
            self.refused(BadSystem(0, "row"), System, (1, 1), 2, [(row, 0, 0)], False)
        self.same(len(System((1, 1), 2, [((0, 1), 0, 2), ((0, 1, 0, 2), 0, 0)], True)), 2)

    def test_answers_given_twice(self):
        self.refused(BadSystem(2, "twice"), System, (2, 1), 1, [((), 0, 0), ((), 1, 0), ([], 0, 1)])
        self.refused(BadSystem(1, "twice"), System, (2, 1), 1, [((), 0, 0), ((), 0, 0), None])
        self.refused(BadSystem(1, "answer"), System, (2, 1), 1, [((), 0, 0), None, ((), 0, 0)])

    def test_of_two_faults_the_first_one_counts(self):
        self.refused(BadSystem(0, "row"), System, (1, 1), 1, [((0,), 5, 5)])
        self.refused(BadSystem(0, "kind"), System, (1, 1), 1, [((), 5, 5), ((0,), 0, 0)])
        self.refused(BadSystem(0, "word"), System, (1, 1), 1, [((), 0, 5), None])
        self.refused(BadSystem(1, "word"), System, (1, 1), 1, [((), 0, 0), ((), 0, 5)])

    def test_later_changes_have_no_effect(self):
        sides, answers = [2, 1], listed(ANSWERS)
        system = System(sides, 2, answers)
        self.same((sides, answers), ([2, 1], listed(ANSWERS)))
        spoil(sides)
        spoil(answers)
        self.same((system.sides, system.answers), ((2, 1), tuple(ANSWERS)))
        self.same(system.answer_for((), 0), 1)

    def test_equality(self):
        system = System((2, 1), 2, ANSWERS)
        self.assertTrue(system == System([2, 1], 2, listed(ANSWERS)[::-1], False))
        self.unequal_to_all(system, [
            System((2, 2), 2, ANSWERS), System((2, 1), 3, ANSWERS), System((2, 1), 2, ANSWERS[:3]),
            System((2, 1), 2, ANSWERS[:3] + [((1, 2), 1, 0)]), None, tuple(ANSWERS), "system", 4,
        ])
        self.unequal_to_all(System((1, 1), 1, [((), 0, 1)]), [System((1, 1), 1, [((), 0, 1)], True)])


class Asking(Case):
    def test_every_row_and_kind(self):
        for sides, ladder, foes, words in SMALL:
            system = System(sides, ladder, answers_in(words), foes)
            for row in told_rows(ladder, foes):
                for kind in range(-1, 3):
                    for asked in (row, list(row)):
                        self.same(system.has_answer(asked, kind), (row, kind) in words)
                        if (row, kind) in words:
                            self.same(system.answer_for(asked, kind), words[row, kind])
                        else:
                            self.refused(NoAnswer(row), system.answer_for, asked, kind)

    def test_no_answer_whatever_the_values_are(self):
        system = System((2, 1), 2, ANSWERS)
        for row in (*NO_SEQUENCE, None, 5):
            self.refused(NoAnswer(None), system.answer_for, row, 0)
            self.same(system.has_answer(row, 0), False)
        for row in ((True,), (1.0,), ("1",), (None,), ([1],), (9, 9), (0, 0), ({},)):
            self.refused(NoAnswer(row), system.answer_for, row, 0)
            self.refused(NoAnswer(row), system.answer_for, list(row), 0)
            self.same(system.has_answer(row, 0), False)
        for kind in NO_WHOLE:
            self.refused(NoAnswer(()), system.answer_for, [], kind)
            self.same(system.has_answer((), kind), False)
        self.same((system.has_answer((1,), 0), system.has_answer((), 1)), (True, True))


class Changing(Case):
    def test_with_every_answer(self):
        for sides, ladder, foes, words in SMALL:
            system = System(sides, ladder, answers_in(words), foes)
            for row in partner_rows(ladder, foes):
                for kind in range(sides[told_speaker(row, foes)]):
                    for word in told_words(row, ladder):
                        found = system.with_answer(list(row), kind, word)
                        self.same(found.answers, in_order({**words, (row, kind): word}))
                        self.same((found.sides, found.ladder, found.foes), (sides, ladder, foes))
            self.same(system.answers, in_order(words))

    def test_without_every_answer(self):
        for sides, ladder, foes, words in SMALL:
            system = System(sides, ladder, answers_in(words), foes)
            for row, kind in itertools.product(partner_rows(ladder, foes), range(3)):
                found = system.without_answer(list(row), kind)
                self.same(found.answers, in_order({at: words[at] for at in words if at != (row, kind)}))
                self.same(found.has_answer(row, kind), False)
                self.same((found.sides, found.ladder, found.foes), (sides, ladder, foes))
            self.same(system.answers, in_order(words))

    def test_with_answer_refuses(self):
        system = System((2, 1), 2, ANSWERS)
        for row in (*NO_SEQUENCE, (0,), (3,), (True,), (1, 1)):
            self.refused(BadSystem(0, "row"), system.with_answer, row, 0, 0)
            self.refused(BadSystem(0, "row"), system.with_answer, row, 9, 9)
        for kind in (*NO_WHOLE, -1, 2):
            self.refused(BadSystem(0, "kind"), system.with_answer, (), kind, 0)
            self.refused(BadSystem(0, "kind"), system.with_answer, (), kind, 9)
        for word in (*NO_WHOLE, -1, 3):
            self.refused(BadSystem(0, "word"), system.with_answer, (), 0, word)
        self.refused(BadSystem(0, "word"), system.with_answer, (1,), 0, 1)
        self.refused(BadSystem(0, "kind"), system.with_answer, (1,), 1, 0)

    def test_without_answer_takes_whatever_values(self):
        system = System((2, 1), 2, ANSWERS)
        for row in (*NO_SEQUENCE, (True,), (1.0,), ([1],), (9,), (2,)):
            found = system.without_answer(row, 0)
            self.assertTrue(found == system and found is not system)
        for kind in (*NO_WHOLE, -1, 2):
            self.assertTrue(system.without_answer((), kind) == system)
        self.assertTrue(system.without_answer([], 0) == System((2, 1), 2, ANSWERS[1:]))

    def test_later_changes_of_a_row_have_no_effect(self):
        system = System((2, 1), 2, ANSWERS)
        row = [2]
        found = system.with_answer(row, 0, 0)
        less = found.without_answer(row, 0)
        with self.assertRaises(NoAnswer) as held:
            less.answer_for(row, 0)
        self.same(row, [2])
        spoil(row)
        self.same(found.answers, (((), 0, 1), ((), 1, 0), ((1,), 0, 2), ((2,), 0, 0), ((1, 2), 0, 0)))
        self.same((less.answers, held.exception.row), (tuple(ANSWERS), (2,)))

    def test_a_large_system(self):
        rng = random.Random(1)
        words = {(row, kind): rng.choice(told_words(row, 6)) for row in partner_rows(6, False)
                 for kind in range((6, 2)[len(row) % 2])}
        answers = answers_in(words)
        rng.shuffle(answers)
        self.same(System((6, 2), 6, answers).answers, in_order(words))


if __name__ == "__main__":
    unittest.main()
