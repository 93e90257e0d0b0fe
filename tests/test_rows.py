"""[2.1] to [2.5]: rows, plain and with foes."""

import itertools
import unittest

from risingcalls.errors import BadRow
from risingcalls.rows import (
    all_foe_words, check_row, end_at, foe_words_of, is_ended, is_row, next_words, speaker_at, standing_at, words_of,
)
from worlds import (
    NO_SEQUENCE, NO_WHOLE, Case, listed, spoil, told_end, told_ended, told_foe_words, told_row, told_rows, told_speaker,
)

BOTH = (False, True)


class Rows(Case):
    def test_rows_of_small_ladders_among_all_sequences(self):
        for foes in BOTH:
            for ladder, most in ((0, 4), (1, 6), (2, 7), (3, 6)):
                for size in range(most + 1):
                    for row in itertools.product(range(ladder + 2), repeat=size):
                        self.same(is_row(row, ladder, foes), told_row(row, ladder, foes))

    def test_lists_are_rows_too(self):
        for foes in BOTH:
            for row in told_rows(3, foes):
                self.same(is_row(list(row), 3, foes), True)
                self.same(check_row(list(row), 3, foes), row)
                self.same(check_row(row, 3, foes), row)

    def test_named_rows(self):
        for row in ((), (0,), (1, 2, 0), (6,), (1, 2, 3, 4, 5, 6, 0), (2, 5)):
            self.same(is_row(row, 6, False), True)
        for row in ((0, 0), (0, 1), (1, 1), (2, 1), (7,), (1, 0, 2), (-1,), (1, 0, 0)):
            self.same(is_row(row, 6, False), False)
        for row in ((0, 0), (0, 1), (0, 1, 0, 0), (0, 1, 0, 2), (1, 0, 0, 0), (1, 0), (1, 0, 2, 0, 0, 0), (0, 1, 0)):
            self.same(is_row(row, 6, True), True)
        for row in ((0, 0, 0), (0, 0, 1), (1, 0, 0, 0, 2), (1, 1), (0, 2, 1), (2, 0, 2), (0, 7)):
            self.same(is_row(row, 6, True), False)

    def test_other_values_are_no_rows(self):
        for foes in BOTH:
            for thing in NO_SEQUENCE:
                self.same(is_row(thing, 6, foes), False)
                self.refused(BadRow(), check_row, thing, 6, foes)
            for odd in (*NO_WHOLE, -1, 7):
                for row in ((odd,), [odd], (1, odd), (1, 2, odd)):
                    self.same(is_row(row, 6, foes), False)
                    self.refused(BadRow(), check_row, row, 6, foes)

    def test_rows_keep_to_the_ladder(self):
        for ladder in range(7):
            for foes in BOTH:
                self.same(is_row((ladder,), ladder, foes), True)
                self.same(is_row((ladder + 1,), ladder, foes), False)
                self.same(is_row((0, ladder), ladder, foes), foes)
                self.same(is_row((0, ladder + 1), ladder, foes), False)

    def test_check_row_does_not_keep_the_row(self):
        row = [1, 2]
        found = check_row(row, 3, False)
        self.same(row, [1, 2])
        spoil(row)
        self.same(found, (1, 2))


class Asking(Case):
    def all_rows(self):
        for foes in BOTH:
            for ladder in (0, 1, 2, 3, 4) if foes else (0, 3, 6):
                for row in told_rows(ladder, foes):
                    yield row, foes
                    yield list(row), foes

    def test_every_row(self):
        for row, foes in self.all_rows():
            self.same(standing_at(row), max(row, default=0))
            self.same(end_at(row, foes), told_end(row, foes))
            self.same(is_ended(row, foes), told_ended(row, foes))
            self.same(speaker_at(row, foes), told_speaker(row, foes))

    def test_words_of_each_side(self):
        for row, foes in self.all_rows():
            said = ([], [], [])
            for at, word in enumerate(row):
                if foes and at % 2 == 1:
                    said[2].append(word)
                else:
                    said[(at // 2 if foes else at) % 2].append(word)
            self.same(words_of(row, foes, 0), tuple(said[0]))
            self.same(words_of(row, foes, 1), tuple(said[1]))
            if foes:
                self.same(foe_words_of(row), tuple(said[2]))

    def test_named_ends(self):
        self.same((end_at((), False), end_at((0,), False), end_at((2, 5, 0), False)), (0, 0, 5))
        self.same((end_at((0, 2), True), end_at((2, 5), True), end_at((0, 2, 5, 0, 0, 0), True)), (-2, -5, 5))
        self.same((end_at((0, 0), True), end_at((), True), end_at((3, 0, 0, 0), True)), (0, 0, 3))

    def test_a_foes_call_behind_a_stop_does_not_end(self):
        self.same((is_ended((0, 1), True), speaker_at((0, 1), True)), (False, 1))
        self.same((is_ended((0, 0), True), speaker_at((0, 0), True)), (True, None))
        self.same((is_ended((1, 0), True), speaker_at((1, 0), True)), (False, 1))
        self.same((is_ended((0, 1, 0), True), speaker_at((0, 1, 0), True)), (False, None))
        self.same((is_ended((0, 1, 0, 0), True), speaker_at((0, 1, 0, 0), True)), (True, None))
        self.same((is_ended((1, 0, 2, 0), True), speaker_at((1, 0, 2, 0), True)), (False, 0))

    def test_next_words(self):
        for ladder in range(7):
            for standing in range(ladder + 1):
                self.same(next_words(ladder, standing), (0, *range(standing + 1, ladder + 1)))


class FoeWords(Case):
    def test_the_documents_example(self):
        self.same(list(all_foe_words(2)), [(), (1,), (2,), (0, 1), (0, 2), (1, 2)])

    def test_all_ladders(self):
        for ladder in range(5):
            self.same(list(all_foe_words(ladder)), told_foe_words(ladder))
        self.same(list(all_foe_words(0)), [()])

    def test_the_greatest_ladder(self):
        found = list(all_foe_words(6))
        self.assertEqual(len(found), 924)
        self.assertEqual(found, sorted(set(found), key=lambda words: (len(words), words)))
        for words in found:
            calls = [word for word in words if word]
            self.assertEqual(calls, sorted(set(calls)))
            self.assertTrue(len(words) <= 6 and set(calls) <= set(range(1, 7)) and (not words or words[-1]))

    def test_lists_are_read_as_rows(self):
        row = [0, 1, 2, 0]
        self.same((words_of(row, True, 0), words_of(row, True, 1), foe_words_of(row)), ((0,), (2,), (1, 0)))
        self.same(row, [0, 1, 2, 0])
        self.same(listed((row,)), [[0, 1, 2, 0]])


if __name__ == "__main__":
    unittest.main()
