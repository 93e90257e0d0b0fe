"""[3.5], [3.6], [3.7], and [3.8] for books."""

import itertools
import random
import unittest

from bookworlds import raised_row, some_book, told_rule
from risingcalls.books import (
    Book, answer_in, moved_up, raised_book, rule_in, with_rule, without_rules,
)
from risingcalls.errors import BadBook, BadKind, BadRaise, BadRow, BadSide, NoRule
from risingcalls.making import system_from
from risingcalls.marks import Marks
from risingcalls.rules import Rule
from risingcalls.systems import System
from risingcalls.talks import play_talk
from worlds import ALL_SIDES, NO_SEQUENCE, NO_WHOLE, Case, partner_rows, spoil, told_speaker

RULES = (Rule(1, side=0), Rule(0), Rule(2, own="none"), Rule(3, [("a", 1, 1)]))


def marks_for(kinds):
    return Marks(["a"], [[kind] for kind in range(kinds)])


BOOK = Book(marks_for(2), marks_for(3), RULES)


class Making(Case):
    def test_attributes(self):
        for rules in (RULES, list(RULES)):
            book = Book(marks_for(2), marks_for(3), rules)
            self.same(book.rules, RULES)
            self.same((book.east_marks, book.west_marks), (marks_for(2), marks_for(3)))
            self.same((book.sides, len(book), list(book)), ((2, 3), 4, list(RULES)))
            self.same((book.marks_of(0), book.marks_of(1)), (marks_for(2), marks_for(3)))

    def test_numbers_of_rules(self):
        for many in (1, 2, 39, 40):
            self.same(len(Book(marks_for(1), marks_for(1), [Rule(0)] * many)), many)
        for rules in (*NO_SEQUENCE, (), [], [Rule(0)] * 41, BOOK, Rule(0)):
            self.refused(BadBook(None), Book, marks_for(1), marks_for(1), rules)
            self.refused(BadBook(None), Book, marks_for(6), marks_for(6), rules)

    def test_numbers_of_kinds(self):
        for east, west in itertools.product(range(1, 7), repeat=2):
            if (east, west) in ALL_SIDES:
                self.same(Book(marks_for(east), marks_for(west), RULES).sides, (east, west))
            else:
                self.refused(BadBook(None), Book, marks_for(east), marks_for(west), RULES)
                self.refused(BadBook(None), Book, marks_for(east), marks_for(west), [None])

    def test_marks_that_are_none(self):
        for odd in (None, 1, (), "a", RULES[0]):
            self.refused(BadBook(None), Book, odd, marks_for(1), RULES)
            self.refused(BadBook(None), Book, marks_for(1), odd, RULES)

    def test_rules_that_are_none(self):
        for odd in (None, True, 0, (1, ()), "rule", BOOK, marks_for(1)):
            self.refused(BadBook(0), Book, marks_for(1), marks_for(1), [odd])
            self.refused(BadBook(2), Book, marks_for(1), marks_for(1), [Rule(0), Rule(0), odd, None])

    def test_wrong_sides(self):
        for side in (*NO_WHOLE, -1, 2):
            self.refused(BadSide(), BOOK.marks_of, side)

    def test_later_changes_have_no_effect(self):
        rules = list(RULES)
        book = Book(marks_for(2), marks_for(3), rules)
        self.same(rules, list(RULES))
        spoil(rules)
        self.same(book.rules, RULES)

    def test_equality(self):
        self.assertTrue(BOOK == Book(marks_for(2), marks_for(3), list(RULES)))
        self.unequal_to_all(BOOK, [
            Book(marks_for(1), marks_for(3), RULES), Book(marks_for(2), marks_for(2), RULES),
            Book(marks_for(2), marks_for(3), RULES[::-1]), Book(marks_for(2), marks_for(3), RULES[:3]), None, RULES, 4,
        ])
        self.assertTrue(Book(marks_for(1), marks_for(1), [Rule(0), Rule(0)]) != Book(marks_for(1), marks_for(1), [Rule(0)]))


class Deciding(Case):
    def test_the_first_rule_that_fits_for_every_kind_and_row(self):
        rng = random.Random(51)
        numbers = set()
        for foes, ladder in ((False, 3), (True, 2)):
            for _ in range(60):
                book = some_book(rng, ladder, foes)
                for row in partner_rows(ladder, foes):
                    for kind in range(book.sides[told_speaker(row, foes)]):
                        number = told_rule(book, kind, row, foes)
                        numbers.add(number)
                        self.same(rule_in(book, kind, list(row), foes), number)
                        self.same(answer_in(book, kind, row, foes), None if number is None else book.rules[number].word)
        self.assertTrue({None, 0, 1, 2, 3} <= numbers)

    def test_it_decides_also_if_its_word_may_not_be_said(self):
        book = Book(marks_for(1), marks_for(1), [Rule(2, side=1), Rule(5), Rule(6)])
        self.same((rule_in(book, 0, ()), answer_in(book, 0, ())), (1, 5))
        self.same((rule_in(book, 0, (5,)), answer_in(book, 0, (5,))), (0, 2))
        self.same((rule_in(book, 0, (5, 6)), answer_in(book, 0, (5, 6))), (1, 5))

    def test_where_no_rule_fits(self):
        book = Book(marks_for(1), marks_for(1), [Rule(2, side=0)])
        self.same((rule_in(book, 0, (1,)), answer_in(book, 0, (1,))), (None, None))

    def test_wrong_rows_then_wrong_kinds(self):
        for work in (rule_in, answer_in):
            for row in (*NO_SEQUENCE, (0,), (7,), (1, 1), (True,)):
                self.refused(BadRow(), work, BOOK, 0, row)
                self.refused(BadRow(), work, BOOK, 9, row)
            self.refused(BadRow(), work, BOOK, 0, (1,), True)
            for kind in (*NO_WHOLE, -1, 2):
                self.refused(BadKind(), work, BOOK, kind, ())
            for kind in (*NO_WHOLE, -1, 3):
                self.refused(BadKind(), work, BOOK, kind, (1,))
            self.same(work(BOOK, 2, (1,)) is None, False)


class Changing(Case):
    def same_marks(self, book):
        self.same((book.east_marks, book.west_marks), (marks_for(2), marks_for(3)))
        self.same(BOOK.rules, RULES)

    def test_raised(self):
        for by in range(4):
            found = raised_book(BOOK, by)
            self.same(found.rules, tuple(rule.raised(by) for rule in RULES))
            self.same_marks(found)
        for by in (*NO_WHOLE, -1, 4, 5, 6, 7):
            self.refused(BadRaise(), raised_book, BOOK, by)
        self.refused(BadRaise(), raised_book, Book(marks_for(1), marks_for(1), [Rule(0), Rule(1, low=5)]), 2)
        self.same(raised_book(Book(marks_for(1), marks_for(1), [Rule(0)]), 6).rules, (Rule(0),))

    def test_moved_up(self):
        for number in (1, 2, 3):
            found = moved_up(BOOK, number)
            wanted = list(RULES)
            wanted.insert(number - 1, wanted.pop(number))
            self.same(found.rules, tuple(wanted))
            self.same_marks(found)
        for number in (*NO_WHOLE, -1, 0, 4):
            self.refused(NoRule(number), moved_up, BOOK, number)
        self.refused(NoRule(1), moved_up, Book(marks_for(1), marks_for(1), [Rule(0)]), 1)

    def test_without_rules(self):
        for size in range(4):
            for numbers in itertools.permutations(range(4), size):
                wanted = tuple(rule for number, rule in enumerate(RULES) if number not in numbers)
                for given in (numbers, list(numbers) * 2):
                    found = without_rules(BOOK, given)
                    self.same(found.rules, wanted)
                    self.same_marks(found)
        self.assertTrue(without_rules(BOOK, []) is not BOOK)

    def test_without_rules_refuses(self):
        for odd in (*NO_WHOLE, -1, 4):
            self.refused(NoRule(odd), without_rules, BOOK, [odd])
            self.refused(NoRule(odd), without_rules, BOOK, (0, 1, 2, 3, odd, 9))
        self.refused(BadBook(None), without_rules, BOOK, (3, 1, 0, 2))
        self.refused(NoRule(4), without_rules, BOOK, (0, 1, 2, 3, 4, -1))

    def test_with_rule(self):
        rule = Rule(4)
        for number in range(5):
            found = with_rule(BOOK, number, rule)
            self.same(found.rules, (*RULES[:number], rule, *RULES[number:]))
            self.same_marks(found)

    def test_with_rule_refuses(self):
        full = Book(marks_for(1), marks_for(1), [Rule(0)] * 40)
        for odd in (*NO_WHOLE, -1, 5):
            self.refused(NoRule(odd), with_rule, BOOK, odd, Rule(0))
            self.refused(NoRule(odd), with_rule, BOOK, odd, None)
        self.refused(NoRule(41), with_rule, full, 41, Rule(0))
        for rule in (Rule(0), None):
            self.refused(BadBook(None), with_rule, full, 40, rule)
            self.refused(BadBook(None), with_rule, full, 0, rule)
        for odd in (None, True, 0, "rule", BOOK, [Rule(0)]):
            for number in range(5):
                self.refused(BadBook(number), with_rule, BOOK, number, odd)
        last = with_rule(Book(marks_for(1), marks_for(1), [Rule(0)] * 39), 39, Rule(1))
        self.same((len(last), last.rules[39]), (40, Rule(1)))


class Raising(Case):
    def raised_books(self, foes, ladder, many):
        rng = random.Random(52)
        for _ in range(many):
            book = some_book(rng, rng.randint(1, ladder), foes, most=5, few=0.35)
            for by in range(7 - ladder):
                try:
                    yield book, raised_book(book, by), by
                except BadRaise:
                    continue

    def test_the_answers_are_raised(self):
        calls = 0
        for foes, ladder in ((False, 3), (False, 4), (True, 2)):
            for book, raised, by in self.raised_books(foes, ladder, 40):
                for row in partner_rows(ladder, foes):
                    for kind in range(book.sides[told_speaker(row, foes)]):
                        answer = answer_in(book, kind, row, foes)
                        wanted = answer + by if answer else answer
                        self.same(answer_in(raised, kind, raised_row(row, by), foes), wanted)
                        calls += bool(answer)
        self.assertGreater(calls, 500)

    def test_the_plain_talks_are_raised(self):
        whole = 0
        for book, raised, by in self.raised_books(False, 3, 150):
            for ladder in range(7 - by):
                one, other = system_from(book, ladder), system_from(raised, ladder + by)
                self.same(type(one), type(other))
                if isinstance(one, System):
                    whole += 1
                    for couple in itertools.product(*map(range, book.sides)):
                        talk, behind = play_talk(one, couple), play_talk(other, couple)
                        self.same(behind.row, raised_row(talk.row, by))
                        self.same(behind.end, talk.end + by if talk.end else 0)
                else:
                    self.same((other.row, other.kind), (raised_row(one.row, by), one.kind))
        self.assertGreater(whole, 100)


if __name__ == "__main__":
    unittest.main()
