"""Unmaking systems: the book with given marks that has a system, or why there is none."""

from risingcalls.basics import EAST, WEST
from risingcalls.books import Book
from risingcalls.errors import NotAlike
from risingcalls.heard import gaps_of, needed_answers
from risingcalls.rules import Rule, situation_at


class Clash:
    """Two needed answers that no book with these marks can tell apart, with unlike words."""

    def __init__(self, row, kind, other_row, other_kind):
        self.row = row
        self.kind = kind
        self.other_row = other_row
        self.other_kind = other_kind

    def __eq__(self, other):
        return (
            isinstance(other, Clash)
            and self.row == other.row
            and self.kind == other.kind
            and self.other_row == other.other_row
            and self.other_kind == other.other_kind
        )


def view_of(system, marks, row, kind, memory):
    """Return what a book sees of a needed answer: the situation, or its parts without memory, and numbers."""
    situation = situation_at(row, system.foes)
    if not memory:
        situation = (situation[0], None, None, None, situation[4])
    return (situation, marks[situation[0]].lines[kind])


def rule_for(view, word, marks):
    """Return the rule that says the word just where this is the view."""
    (speaker, own, other, foe, standing), numbers = view
    tests = [(name, number, number) for name, number in zip(marks[speaker].names, numbers)]
    return Rule(word, tests, own, other, foe, standing, standing, speaker)


def firsts_of_views(system, see):
    """Return a dict of the first needed answer of each view see(row, kind), or the Clash of two unlike words."""
    firsts = {}
    for row, kind, word in needed_answers(system):
        view = see(row, kind)
        if view not in firsts:
            firsts[view] = (row, kind, word)
        elif firsts[view][2] != word:
            return Clash(row, kind, firsts[view][0], firsts[view][1])
    return firsts


def book_for(system, east_marks, west_marks, *, memory=True):
    """Return a Book with these marks that has the system, or the Clash or Gap that bars all."""
    if system.sides[EAST] != east_marks.kinds or system.sides[WEST] != west_marks.kinds:
        raise NotAlike("sides")
    gaps = gaps_of(system)
    if gaps:
        return gaps[0]
    marks = (east_marks, west_marks)
    found = firsts_of_views(system, lambda row, kind: view_of(system, marks, row, kind, memory))
    if isinstance(found, Clash):
        return found
    # a Book itself refuses more rules than it may have
    return Book(east_marks, west_marks, [rule_for(view, found[view][2], marks) for view in found])
