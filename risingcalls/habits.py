"""Habits: ways of speaking in plain talks in which a word depends on the kind and the standing call alone."""

from risingcalls.basics import EAST, LADDER_MOST, STOP, WEST, are_sides, check_kind, check_side, couples_of
from risingcalls.basics import is_sequence, is_whole, other_side
from risingcalls.errors import BadHabit
from risingcalls.heard import gaps_of
from risingcalls.rows import may_be_said, speaker_at, standing_at
from risingcalls.speaking import system_spoken
from risingcalls.systems import check_plain
from risingcalls.unmaking import Clash, firsts_of_views


def is_line(thing, ladder):
    """Return whether a value has for each standing call, in order, a word that may be said there."""
    if not is_sequence(thing) or len(thing) != ladder + 1:
        return False
    return all([may_be_said(word, ladder, standing) for standing, word in enumerate(thing)])


def are_lines(thing, kinds, ladder):
    """Return whether a value has the words of so many kinds."""
    return is_sequence(thing) and len(thing) == kinds and all([is_line(line, ladder) for line in thing])


class Habit:
    """The word of each kind of both sides at each standing call."""

    def __init__(self, sides, ladder, east_words, west_words):
        if not are_sides(sides):
            raise BadHabit("sides")
        if not is_whole(ladder, 0, LADDER_MOST):
            raise BadHabit("ladder")
        if not are_lines(east_words, sides[EAST], ladder):
            raise BadHabit("east_words")
        if not are_lines(west_words, sides[WEST], ladder):
            raise BadHabit("west_words")
        self.sides = tuple(sides)
        self.ladder = ladder
        self.east_words = tuple([tuple(line) for line in east_words])
        self.west_words = tuple([tuple(line) for line in west_words])

    def __eq__(self, other):
        return (
            isinstance(other, Habit)
            and self.sides == other.sides
            and self.ladder == other.ladder
            and self.east_words == other.east_words
            and self.west_words == other.west_words
        )

    def word_at(self, side, kind, standing):
        """Return the word of the side's kind where this call stands."""
        check_side(side)
        check_kind(kind, self.sides[side])
        if not is_whole(standing, 0, self.ladder):
            raise BadHabit("standing")
        return (self.east_words, self.west_words)[side][kind][standing]

    def with_word(self, side, kind, standing, word):
        """Return the habit with this word of the side's kind where this call stands."""
        # what is refused there is refused here
        self.word_at(side, kind, standing)
        if not may_be_said(word, self.ladder, standing):
            raise BadHabit("word")
        entries = entries_of(self)
        entries[(side, kind, standing)] = word
        return habit_with(self.sides, self.ladder, entries)


class TwoWords:
    """A kind that says unlike words at two rows at which the same call stands, so that no habit has them."""

    def __init__(self, side, kind, row, other_row):
        self.side = side
        self.kind = kind
        self.row = row
        self.other_row = other_row

    def __eq__(self, other):
        return (
            isinstance(other, TwoWords)
            and self.side == other.side
            and self.kind == other.kind
            and self.row == other.row
            and self.other_row == other.other_row
        )


def entries_of(habit):
    """Return a dict of the word at each (side, kind, standing call) of the habit."""
    pairs = ((EAST, habit.east_words), (WEST, habit.west_words))
    return {
        (side, kind, standing): word
        for side, words in pairs
        for kind, line in enumerate(words)
        for standing, word in enumerate(line)
    }


def habit_with(sides, ladder, entries):
    """Return the habit with these words by (side, kind, standing call), and the word 0 where there is none."""
    words = [
        [[entries.get((side, kind, standing), STOP) for standing in range(ladder + 1)] for kind in range(sides[side])]
        for side in (EAST, WEST)
    ]
    return Habit(sides, ladder, words[EAST], words[WEST])


def system_of_habit(habit):
    """Return the plain system in which each kind that can be there says the habit's word."""
    def speak(row, lots):
        side = speaker_at(row, False)
        return [(kind, habit.word_at(side, kind, standing_at(row))) for kind in lots[side]]

    return system_spoken(habit.sides, habit.ladder, speak)


def entries_along(habit, couple):
    """Return a list of (side, kind, standing call) for the words of the couple's talk."""
    side, standing = EAST, 0
    entries = [(side, couple[side], standing)]
    while habit.word_at(side, couple[side], standing) != STOP:
        side, standing = other_side(side), habit.word_at(side, couple[side], standing)
        entries.append((side, couple[side], standing))
    return entries


def asked_entries(habit):
    """Return (side, kind, standing call) for all words that the talks of all couples ask, ascending."""
    couples = couples_of(habit.sides)
    return tuple(sorted({entry for couple in couples for entry in entries_along(habit, couple)}))


def tidied(habit):
    """Return the habit with the word 0 where no talk asks."""
    entries = entries_of(habit)
    return habit_with(habit.sides, habit.ladder, {entry: entries[entry] for entry in asked_entries(habit)})


def habit_of(system):
    """Return the tidied habit that has a plain system, or the TwoWords or Gap that bars all."""
    check_plain(system)
    gaps = gaps_of(system)
    if gaps:
        return gaps[0]
    found = firsts_of_views(system, lambda row, kind: (speaker_at(row, False), kind, standing_at(row)))
    if isinstance(found, Clash):
        return TwoWords(speaker_at(found.row, False), found.kind, found.row, found.other_row)
    return habit_with(system.sides, system.ladder, {entry: found[entry][2] for entry in found})
