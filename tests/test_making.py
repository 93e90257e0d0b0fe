"""[3.9] to [3.12]: walks of books, systems from books, and rules that are silent, needless or shadowed."""

import random
import unittest

from bookworlds import some_book, spoken, told_fits, told_rule, told_walk
from risingcalls.books import Book, moved_up, without_rules
from risingcalls.errors import BadLadder, NoRule
from risingcalls.making import (
    NotRising, is_shadowed, needless_rules, order_matters, silent_rules, system_from, walk_of,
)
from risingcalls.marks import Marks
from risingcalls.rules import Rule, situation_at
from risingcalls.systems import System
from risingcalls.talks import Gap
from worlds import NO_WHOLE, Case, partner_rows, told_speaker, told_words

ONE = Marks(["a"], [[0]])
TWO = Marks(["a"], [[0], [1]])


def books(seed, many):
    """Yield (book, ladder, foes)."""
    rng = random.Random(seed)
    for foes, ladders in ((False, (0, 1, 2, 3, 4)), (True, (0, 1, 2, 3))):
        for ladder in ladders:
            for _ in range(many if ladder < 3 or not foes else many // 4):
                yield some_book(rng, max(1, ladder), foes), ladder, foes


def marks_of(book, row, foes):
    return (book.east_marks, book.west_marks)[told_speaker(row, foes)]


class Walks(Case):
    def test_the_walk_of_many_books(self):
        for book, ladder, foes in books(61, 40):
            self.same(list(walk_of(book, ladder, foes)), told_walk(book, ladder, foes))

    def test_foes_are_false_unless_told(self):
        book = Book(TWO, TWO, [Rule(1, own="none", other="none"), Rule(0)])
        self.same(list(walk_of(book, 2)), [((), 0, 0), ((), 1, 0), ((1,), 0, 1), ((1,), 1, 1)])
        self.same(list(walk_of(book, 1, True)), [((), 0, 0), ((), 1, 0), ((1, 0), 0, 1), ((1, 0), 1, 1)])

    def test_kinds_without_a_sayable_answer_go_no_further(self):
        book = Book(TWO, ONE, [Rule(2, [("a", 0, 0)], side=0), Rule(1, side=1, low=2)])
        self.same(list(walk_of(book, 2)), [((), 0, 0), ((), 1, None), ((2,), 0, 1)])
        self.same(list(walk_of(book, 1)), [((), 0, 0), ((), 1, None)])

    def test_the_greatest_ladder(self):
        book = Book(ONE, ONE, [Rule(call + 1, low=call, high=call) for call in range(6)] + [Rule(0)])
        self.same(list(walk_of(book, 6))[-1], ((1, 2, 3, 4, 5, 6), 0, 6))
        rows = [row for row, _, _ in walk_of(book, 6, True)]
        self.assertEqual(rows, sorted(set(rows), key=lambda row: (len(row), row)))
        self.assertIn((1, 2, 3, 4, 5, 6), rows)

    def test_wrong_ladders_come_first(self):
        book = Book(ONE, ONE, [Rule(0), Rule(1)])
        for ladder in (*NO_WHOLE, -1, 7):
            for work in (walk_of, system_from, silent_rules, needless_rules):
                self.refused(BadLadder(), work, book, ladder)
                self.refused(BadLadder(), work, book, ladder, True)
            for number in (1, None, 9):
                self.refused(BadLadder(), is_shadowed, book, number, ladder)
                self.refused(BadLadder(), order_matters, book, number, ladder)


class Systems(Case):
    def test_the_system_or_what_bars_it(self):
        counts = {}
        for book, ladder, foes in books(62, 60):
            found = system_from(book, ladder, foes)
            wanted = []
            for row, kind, number in told_walk(book, ladder, foes):
                word = None if number is None else book.rules[number].word
                if word is None:
                    wanted = Gap(row, kind)
                elif word not in told_words(row, ladder):
                    wanted = NotRising(row, kind, word)
                else:
                    wanted.append((row, kind, word))
                    continue
                break
            if isinstance(wanted, list):
                wanted = System(book.sides, ladder, wanted, foes)
            self.same(found, wanted)
            self.assertTrue(found == wanted)
            counts[type(found)] = counts.get(type(found), 0) + 1
        self.assertEqual(set(counts), {System, Gap, NotRising})
        self.assertGreater(min(counts.values()), 20)

    def test_named_results(self):
        self.same(system_from(Book(ONE, ONE, [Rule(0, side=0, own="none")]), 1, True), Gap((0, 1), 0))
        self.same(system_from(Book(ONE, ONE, [Rule(1)]), 2), NotRising((1,), 0, 1))
        self.same(system_from(Book(ONE, ONE, [Rule(3)]), 2), NotRising((), 0, 3))
        self.same(system_from(Book(TWO, ONE, [Rule(3, [("a", 1, 1)])]), 2), Gap((), 0))
        self.same(system_from(Book(ONE, ONE, [Rule(0)]), 0).answers, (((), 0, 0),))

    def test_not_rising_is_a_result(self):
        for value in (None, [1], "x"):
            result = NotRising(value, value, value)
            self.assertTrue(result.row is value and result.kind is value and result.word is value)
        one = NotRising((1,), 0, 1)
        self.assertTrue(one == NotRising((1,), 0, 1))
        self.unequal_to_all(one, [NotRising((2,), 0, 1), NotRising((1,), 1, 1), NotRising((1,), 0, 2), Gap((1,), 0),
                                  ((1,), 0, 1), None])


class Judging(Case):
    def test_silent_rules(self):
        silent = 0
        for book, ladder, foes in books(63, 40):
            walk = told_walk(book, ladder, foes)
            spoken_by = {number for _, _, number in walk}
            wanted = tuple(number for number in range(len(book)) if number not in spoken_by)
            self.same(silent_rules(book, ladder, foes), wanted)
            silent += len(wanted)
            if 0 < len(wanted) < len(book):
                struck = without_rules(book, wanted)
                self.same(spoken(struck, walk_of(struck, ladder, foes)), spoken(book, walk))
        self.assertGreater(silent, 100)

    def test_needless_rules_by_struck_books(self):
        counts = {True: 0, False: 0}
        for book, ladder, foes in books(64, 40):
            walk = spoken(book, told_walk(book, ladder, foes))
            needless = needless_rules(book, ladder, foes)
            self.same(needless, tuple(sorted(needless)))
            self.assertTrue(set(silent_rules(book, ladder, foes)) <= set(needless))
            for number in range(len(book)):
                if len(book) > 1:
                    struck = without_rules(book, [number])
                    stays = spoken(struck, walk_of(struck, ladder, foes)) == walk
                    self.same(number in needless, stays)
                    counts[stays] += 1
        self.assertGreater(min(counts.values()), 100)

    def test_needless_rules_of_named_books(self):
        self.same(needless_rules(Book(ONE, ONE, [Rule(0)]), 2), ())
        self.same(needless_rules(Book(ONE, ONE, [Rule(1, side=0)]), 0), ())
        self.same(needless_rules(Book(ONE, ONE, [Rule(0), Rule(0)]), 2), (0, 1))
        self.same(needless_rules(Book(ONE, ONE, [Rule(0), Rule(1), Rule(0)]), 2), (1, 2))
        self.same(needless_rules(Book(ONE, ONE, [Rule(0, side=0), Rule(0, side=1)]), 2), (1,))
        self.same(silent_rules(Book(ONE, ONE, [Rule(0, side=0), Rule(0, side=1)]), 2), (1,))
        self.same(silent_rules(Book(ONE, ONE, [Rule(0)]), 2), ())

    def test_shadowed_rules(self):
        counts = {True: 0, False: 0}
        for book, ladder, foes in books(65, 25):
            for number, rule in enumerate(book.rules):
                wanted = True
                for row in partner_rows(ladder, foes):
                    marks = marks_of(book, row, foes)
                    for kind in range(marks.kinds):
                        if told_fits(rule, marks, kind, row, foes):
                            wanted &= any(told_fits(one, marks, kind, row, foes) for one in book.rules[:number])
                self.same(is_shadowed(book, number, ladder, foes), wanted)
                counts[wanted] += 1
        self.assertGreater(min(counts.values()), 100)

    def test_shadowed_is_told_by_all_situations_of_the_ladder_alone(self):
        book = Book(ONE, ONE, [Rule(0), Rule(1), Rule(2, low=3)])
        self.same([is_shadowed(book, number, 4) for number in range(3)], [False, True, True])
        book = Book(ONE, ONE, [Rule(0, side=0), Rule(1, low=3), Rule(2)])
        self.same([is_shadowed(book, 1, ladder) for ladder in range(5)], [True, True, True, False, False])

    def test_order_matters_by_moved_books(self):
        counts = {True: 0, False: 0}
        for book, ladder, foes in books(66, 80):
            walk = told_walk(book, ladder, foes)
            for number in range(1, len(book)):
                moved = moved_up(book, number)
                stays = spoken(moved, walk_of(moved, ladder, foes)) == spoken(book, walk)
                first = None
                for row, kind, found in walk:
                    marks = marks_of(book, row, foes)
                    if (found == number - 1 and told_fits(book.rules[number], marks, kind, row, foes)
                            and book.rules[number].word != book.rules[number - 1].word):
                        first = (row, kind)
                        break
                self.same(order_matters(book, number, ladder, foes), first)
                self.same(first is None, stays)
                counts[stays] += 1
        self.assertGreater(min(counts.values()), 50)

    def test_numbers_of_rules(self):
        book = Book(ONE, ONE, [Rule(0), Rule(1), Rule(0)])
        for number in (*NO_WHOLE, -1, 3):
            self.refused(NoRule(number), is_shadowed, book, number, 1)
            self.refused(NoRule(number), order_matters, book, number, 1)
        self.refused(NoRule(0), order_matters, book, 0, 1)
        self.refused(NoRule(1), order_matters, Book(ONE, ONE, [Rule(0)]), 1, 1)
        self.same((is_shadowed(book, 0, 1), is_shadowed(book, 2, 1)), (False, True))
        self.same((order_matters(book, 1, 1), order_matters(book, 2, 1)), (((), 0), None))

    def test_books_of_forty_rules(self):
        rules = [Rule(word, own=own, low=low, side=side) for word in (0, 1) for own in (None, "none", 1)
                 for low in (0, 1, 2) for side in (0, 1)] + [Rule(0)] * 4
        book = Book(TWO, ONE, rules)
        self.assertEqual(len(book), 40)
        for ladder in (0, 2, 6):
            walk = list(walk_of(book, ladder))
            self.same(walk, told_walk(book, ladder, False))
            self.same(silent_rules(book, ladder),
                      tuple(sorted(set(range(40)) - {number for _, _, number in walk})))

    def test_the_rules_own_oracles_agree_with_situations(self):
        book = some_book(random.Random(67), 2, True)
        for row in partner_rows(2, True):
            self.same(situation_at(row, True)[0], told_speaker(row, True))
            self.assertIn(told_rule(book, 0, row, True), (None, *range(len(book))))


if __name__ == "__main__":
    unittest.main()
