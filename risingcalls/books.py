"""Books: the marks of both sides and rules, of which the first that fits decides."""

from risingcalls.basics import EAST, are_sides, check_kind, check_side, is_sequence, is_whole
from risingcalls.errors import BadBook, NoRule
from risingcalls.marks import Marks
from risingcalls.rules import Rule, fits_kind, situation_at

RULES_MOST = 40


class Book:
    """The marks of east's and west's kinds, and 1 to 40 rules."""

    def __init__(self, east_marks, west_marks, rules):
        if not is_sequence(rules) or not 1 <= len(rules) <= RULES_MOST:
            raise BadBook(None)
        if not isinstance(east_marks, Marks) or not isinstance(west_marks, Marks):
            raise BadBook(None)
        sides = (east_marks.kinds, west_marks.kinds)
        if not are_sides(sides):
            raise BadBook(None)
        for index, rule in enumerate(rules):
            if not isinstance(rule, Rule):
                raise BadBook(index)
        self.east_marks = east_marks
        self.west_marks = west_marks
        self.rules = tuple(rules)
        self.sides = sides

    def __eq__(self, other):
        return (
            isinstance(other, Book)
            and self.east_marks == other.east_marks
            and self.west_marks == other.west_marks
            and self.rules == other.rules
        )

    def __len__(self):
        return len(self.rules)

    def __iter__(self):
        return iter(self.rules)

    def marks_of(self, side):
        """Return the marks of the side."""
        return self.east_marks if check_side(side) == EAST else self.west_marks


def first_fitting(book, kind, situation, start=0):
    """Return the number of the first rule, from start on, that fits; None if none does."""
    marks = book.marks_of(situation[0])
    for number in range(start, len(book.rules)):
        if fits_kind(book.rules[number], marks, kind, situation):
            return number
    return None


def rule_in(book, kind, row, foes=False):
    """Return the number of the first rule that fits at the row, None if none does."""
    situation = situation_at(row, foes)
    return first_fitting(book, check_kind(kind, book.sides[situation[0]]), situation)


def answer_in(book, kind, row, foes=False):
    """Return the word of the first rule that fits at the row, None if none does."""
    number = rule_in(book, kind, row, foes)
    return None if number is None else book.rules[number].word


def check_number(number, low, high):
    """Return the number of a rule, or raise NoRule if it is not from low to high."""
    if not is_whole(number, low, high):
        raise NoRule(number)
    return number


def book_with(book, rules):
    """Return a book with the same marks and these rules."""
    return Book(book.east_marks, book.west_marks, rules)


def raised_book(book, by):
    """Return the book with each rule raised."""
    return book_with(book, [rule.raised(by) for rule in book.rules])


def moved_up(book, number):
    """Return the book with the rule of this number and the one ahead of it exchanged."""
    check_number(number, 1, len(book) - 1)
    rules = list(book.rules)
    rules[number - 1] = book.rules[number]
    rules[number] = book.rules[number - 1]
    return book_with(book, rules)


def without_rules(book, numbers):
    """Return the book without the rules of these numbers."""
    struck = [check_number(number, 0, len(book) - 1) for number in numbers]
    return book_with(book, [rule for number, rule in enumerate(book.rules) if number not in struck])


def with_rule(book, number, rule):
    """Return the book with the rule put in ahead of the rule of this number, or last."""
    check_number(number, 0, len(book))
    return book_with(book, book.rules[:number] + (rule,) + book.rules[number:])
