"""Habits for the tests, and what they say, told apart from the program."""

import itertools

from risingcalls.habits import Habit
from worlds import lots_by_words, partner_rows, told_end, told_speaker, told_talk, told_words


def words_let_at(ladder, standing):
    return [0, *range(standing + 1, ladder + 1)]


def drawn_lines(rng, kinds, ladder):
    return [[rng.choice(words_let_at(ladder, standing)) for standing in range(ladder + 1)] for _ in range(kinds)]


def drawn_habit(rng, sides, ladder):
    return Habit(sides, ladder, drawn_lines(rng, sides[0], ladder), drawn_lines(rng, sides[1], ladder))


def every_line(ladder, side=None):
    """All words of a kind; with a side, just one at the standing calls at which the side never speaks."""
    asked = {None: range(7), 0: (0, 2, 3, 4, 5, 6), 1: range(1, 7)}[side]
    return list(itertools.product(*[words_let_at(ladder, standing) if standing in asked else [0]
                                    for standing in range(ladder + 1)]))


def every_habit(sides, ladder, asked=False):
    easts = itertools.product(every_line(ladder, 0 if asked else None), repeat=sides[0])
    wests = list(itertools.product(every_line(ladder, 1 if asked else None), repeat=sides[1]))
    for east_words in easts:
        for west_words in wests:
            yield Habit(sides, ladder, east_words, west_words)


def spoken_words(habit):
    """The habit's word at every row and for every kind, whether a talk comes there or not."""
    words = {}
    for row in partner_rows(habit.ladder, False):
        side = told_speaker(row, False)
        for kind in range(habit.sides[side]):
            words[row, kind] = (habit.east_words, habit.west_words)[side][kind][max(row, default=0)]
    return words


def needed_words(words, sides, ladder):
    """The answers of a dict that talks of some couple use."""
    needed = {}
    for couple in itertools.product(range(sides[0]), range(sides[1])):
        row = told_talk(words, ladder, False, couple, ())[1]
        for at in range(len(row) + 1):
            place = (row[:at], couple[at % 2])
            if place in words and told_words(row[:at], ladder) and 0 not in row[:at]:
                needed[place] = words[place]
    return needed


def outcomes(words, sides, ladder):
    """The outcome (end, knowing) of each couple, ascending."""
    found = []
    for couple in itertools.product(range(sides[0]), range(sides[1])):
        row = told_talk(words, ladder, False, couple, ())[1]
        lots = lots_by_words(words, sides, row, False)
        found.append((told_end(row, False), (len(lots[1]) == 1, len(lots[0]) == 1)))
    return tuple(found)


def suits_all(goals, found):
    """Whether outcomes of all couples suit goals."""
    couples = itertools.product(range(goals.sides[0]), range(goals.sides[1]))
    return all(end in goals.wanted[east][west] and all(knows or not must for knows, must in zip(knowing, goals.knows))
               for (east, west), (end, knowing) in zip(couples, found))
