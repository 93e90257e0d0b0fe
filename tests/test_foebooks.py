"""[6.8]: books of foes, and talks against them."""

import itertools
import random
import unittest

from risingcalls.errors import BadCouple, BadFoeBook, BadLadder, BadRow, NotAlike
from risingcalls.foebooks import FoeBook, book_along, play_against
from risingcalls.rows import foe_words_of
from risingcalls.systems import System
from risingcalls.talks import Gap, Talk, play_talk
from worlds import (
    NO_SEQUENCE, NO_WHOLE, Case, answers_in, listed, spoil, told_ended, told_rows, worlds,
)


def foe_rows(ladder):
    """The rows with foes at a foe's turn."""
    return [row for row in told_rows(ladder, True) if len(row) % 2 == 1]


def drawn_answers(rng, ladder, share=0.5):
    found = []
    for row in foe_rows(ladder):
        calls = list(range(max(row) + 1, ladder + 1))
        if calls and rng.random() < share:
            found.append((row, rng.choice(calls)))
    rng.shuffle(found)
    return found


class Making(Case):
    def test_attributes_and_words_of_drawn_books(self):
        rng = random.Random(671)
        for ladder in range(5):
            for share in (0.0, 0.2, 0.7, 1.0):
                answers = drawn_answers(rng, ladder, share)
                for given in (answers, tuple(answers), listed(answers)):
                    book = FoeBook(ladder, given)
                    self.same(book.ladder, ladder)
                    self.same(book.answers, tuple(sorted(answers, key=lambda answer: (len(answer[0]), answer[0]))))
                    self.same(len(book), len(answers))
                    self.same(book.leap, max([word - max(row) for row, word in answers], default=0))
                words = dict(answers)
                for row in told_rows(ladder, True):
                    self.same(book.word_for(row), words.get(row, 0))
                    self.same(book.word_for(list(row)), words.get(row, 0))

    def test_values_without_an_answer(self):
        book = FoeBook(3, [((1,), 2), ((0,), 3)])
        for odd in (*NO_SEQUENCE, (), (True,), (1.0,), ("1",), (None,), ((1,),), [[1]], (1, 0), (9,), (-1,), (False,)):
            self.same(book.word_for(odd), 0)

    def test_leaps_by_hand(self):
        self.same(FoeBook(6, []).leap, 0)
        self.same(FoeBook(6, [((0,), 6)]).leap, 6)
        self.same(FoeBook(6, [((4,), 5), ((1, 2, 3), 6), ((1, 2, 0), 4)]).leap, 3)

    def test_equality(self):
        book = FoeBook(3, [((1,), 2), ((0,), 3)])
        self.assertTrue(book == FoeBook(3, [[[0], 3], [[1], 2]]))
        self.unequal_to_all(book, [FoeBook(4, book.answers), FoeBook(3, book.answers[:1]), FoeBook(3, []),
                                   FoeBook(3, [((1,), 3), ((0,), 3)]), None, book.answers, System((1, 1), 3, [], True)])

    def test_later_changes_have_no_effect(self):
        answers = [[[1], 2], [[0], 3]]
        book = FoeBook(3, answers)
        self.same(answers, [[[1], 2], [[0], 3]])
        spoil(answers)
        self.same(book.answers, (((0,), 3), ((1,), 2)))
        self.same(book.word_for([1]), 2)

    def wrong(self, index, what, ladder, answers):
        self.refused(BadFoeBook(index, what), FoeBook, ladder, answers)

    def test_refused_at_each_place(self):
        for odd in (*NO_WHOLE, -1, 7):
            self.wrong(0, "ladder", odd, None)
        for odd in NO_SEQUENCE:
            self.wrong(0, "answers", 3, odd)
        good = ((1,), 2)
        for odd in (*NO_SEQUENCE, (), ((0,),), ((0,), 1, 0)):
            self.wrong(0, "answer", 3, [odd, good])
            self.wrong(1, "answer", 3, [good, odd, odd])
        for odd in (*NO_SEQUENCE, (), (1, 0), (1, 2, 0, 0), (0, 0), (4,), (True,), (None,), (2, 1, 3), (0, 0, 1),
                    (1, 0, 0, 2), (-1,)):
            self.wrong(0, "row", 3, [(odd, None), good])
            self.wrong(1, "row", 3, [good, (odd, 3)])
        for odd in (*NO_WHOLE, 0, 1, 2, -1, 4):
            self.wrong(0, "word", 3, [((2,), odd), good])
            self.wrong(1, "word", 3, [good, ((1, 2, 0), odd)])
        self.wrong(1, "twice", 3, [good, ((1,), 3)])
        self.wrong(2, "twice", 3, [good, ((0,), 3), [[1], 2], None])
        self.wrong(1, "word", 3, [good, ((1,), 1)])
        self.wrong(0, "word", 0, [((0,), 0)])


class Playing(Case):
    def told(self, system, couple, book):
        """The talk with the foes' words that the book says, found by playing it on and on."""
        foe_words = []
        while True:
            result = play_talk(system, couple, foe_words)
            row = result.row[:2 * len(foe_words) + 1]
            if len(result.row) <= 2 * len(foe_words):
                return result
            foe_words.append(book.word_for(row))

    def test_all_couples_of_drawn_systems_and_books(self):
        rng = random.Random(681)
        counts = {Talk: 0, Gap: 0}
        for sides, ladder, _, words in worlds(682, (0, 1, 2, 3, 4), [(1, 1), (2, 2), (3, 1)], foes=(True,)):
            system = System(sides, ladder, answers_in(words), True)
            for _ in range(3):
                book = FoeBook(ladder, drawn_answers(rng, ladder, rng.choice((0.2, 0.6))))
                for couple in itertools.product(range(sides[0]), range(sides[1])):
                    found = play_against(system, couple, book)
                    self.same(found, self.told(system, couple, book))
                    self.same(play_against(system, list(couple), book), found)
                    # each foe's word in the row is the book's, and its answers along the row are all that count
                    for at in range(1, len(found.row), 2):
                        self.same(book.word_for(found.row[:at]), found.row[at])
                    self.same(play_against(system, couple, book_along(ladder, found.row)), found)
                    self.same(play_talk(system, couple, foe_words_of(found.row)), found)
                    counts[type(found)] += 1
        self.assertGreater(min(counts.values()), 100)

    def test_errors_in_their_order(self):
        plain = System((2, 1), 1, [])
        book = FoeBook(2, [])
        for couple in (*NO_SEQUENCE, (), (0,), (2, 0), (0, 1), (0, 0, 0), (True, 0), (-1, 0)):
            self.refused(BadCouple(), play_against, plain, couple, book)
        self.refused(NotAlike("foes"), play_against, plain, (0, 0), book)
        self.refused(NotAlike("ladder"), play_against, System((2, 1), 1, [], True), (0, 0), book)
        self.refused(NotAlike("ladder"), play_against, System((2, 1), 3, [], True), (0, 0), book)


class Along(Case):
    def test_every_row_with_foes(self):
        for ladder in range(5):
            for row in told_rows(ladder, True):
                answers = tuple((row[:at], row[at]) for at in range(1, len(row), 2) if row[at])
                self.same(book_along(ladder, row).answers, answers)
                self.same(book_along(6, list(row)), FoeBook(6, answers))

    def test_errors_in_their_order(self):
        for odd in (*NO_WHOLE, -1, 7):
            self.refused(BadLadder(), book_along, odd, None)
        for odd in (*NO_SEQUENCE, (4,), (True,), (2, 1), (0, 0, 0), (1, None), (-1,)):
            self.refused(BadRow(), book_along, 3, odd)
        self.assertTrue(told_ended((1, 2, 0, 0), True))
        self.same(book_along(3, (1, 2, 0, 0)).answers, (((1,), 2),))


if __name__ == "__main__":
    unittest.main()
