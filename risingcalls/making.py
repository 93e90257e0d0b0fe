"""Making systems of books: walks, and rules that are silent, needless, shadowed or out of order."""

from risingcalls.basics import all_lots, check_ladder
from risingcalls.books import check_number, first_fitting
from risingcalls.heard import turns_behind
from risingcalls.rows import may_be_said, speaker_at, standing_at
from risingcalls.rules import fits_kind, situation_at, situations_of
from risingcalls.systems import System
from risingcalls.talks import Gap


class NotRising:
    """A row at which a book lets this kind say a word that may not be said there."""

    def __init__(self, row, kind, word):
        self.row = row
        self.kind = kind
        self.word = word

    def __eq__(self, other):
        return (
            isinstance(other, NotRising)
            and self.row == other.row
            and self.kind == other.kind
            and self.word == other.word
        )


def spoken_at(book, turn, foes):
    """Return (kind, number of its rule or None) for each kind that speaks at the turn (row, lots)."""
    row, lots = turn
    situation = situation_at(row, foes)
    return [(kind, first_fitting(book, kind, situation)) for kind in lots[situation[0]]]


def goes_on(book, number, row, ladder):
    """Return whether there is a rule of this number and its word may be said at the row."""
    return number is not None and may_be_said(book.rules[number].word, ladder, standing_at(row))


def turns_spoken(book, turn, spoken, ladder, foes):
    """Return the turns (row, lots) at which a side speaks behind what is spoken at the turn."""
    said = [(kind, book.rules[number].word) for kind, number in spoken if goes_on(book, number, turn[0], ladder)]
    turns = turns_behind(turn, said, ladder, foes)
    return [(row, lots) for row, lots in turns if speaker_at(row, foes) is not None]


def walk_of(book, ladder, foes=False):
    """Yield (row, kind, number of its rule or None) for all that is spoken."""
    check_ladder(ladder)
    turns = [((), all_lots(book.sides))]
    while turns:
        steps = [(turn, spoken_at(book, turn, foes)) for turn in turns]
        for turn, spoken in steps:
            for kind, number in spoken:
                yield (turn[0], kind, number)
        turns = [
            behind for turn, spoken in steps for behind in turns_spoken(book, turn, spoken, ladder, foes)
        ]


def system_from(book, ladder, foes=False):
    """Return the System of the book's walk, or the first Gap or NotRising that the walk meets."""
    answers = []
    for row, kind, number in walk_of(book, ladder, foes):
        if number is None:
            return Gap(row, kind)
        word = book.rules[number].word
        if not may_be_said(word, ladder, standing_at(row)):
            return NotRising(row, kind, word)
        answers.append((row, kind, word))
    return System(book.sides, ladder, answers, foes)


def silent_rules(book, ladder, foes=False):
    """Return the numbers of the rules that nobody speaks in the walk, ascending."""
    spoken = {number: True for row, kind, number in walk_of(book, ladder, foes)}
    return tuple([number for number in range(len(book)) if number not in spoken])


def has_stand_in(book, number, kind, row, foes):
    """Return whether the first rule behind this one that fits at the row, too, has the same word."""
    later = first_fitting(book, kind, situation_at(row, foes), number + 1)
    return later is not None and book.rules[later].word == book.rules[number].word


def needless_rules(book, ladder, foes=False):
    """Return the numbers of the rules that can be struck one alone and the answers stay, ascending."""
    needed = {}
    for row, kind, number in walk_of(book, ladder, foes):
        if number is not None and not has_stand_in(book, number, kind, row, foes):
            needed[number] = True
    return tuple([number for number in range(len(book)) if number not in needed])


def is_shadowed(book, number, ladder, foes=False):
    """Return whether an earlier rule fits in every situation and for every kind where this one does."""
    check_ladder(ladder)
    check_number(number, 0, len(book) - 1)
    for situation in situations_of(ladder, foes):
        kinds = all_lots(book.sides)[situation[0]]
        if any([first_fitting(book, kind, situation) == number for kind in kinds]):
            return False
    return True


def order_matters(book, number, ladder, foes=False):
    """Return the first (row, kind) whose answer the exchange with the rule ahead changes, or None."""
    check_ladder(ladder)
    check_number(number, 1, len(book) - 1)
    later = book.rules[number]
    if later.word == book.rules[number - 1].word:
        return None
    for row, kind, spoken in walk_of(book, ladder, foes):
        situation = situation_at(row, foes)
        if spoken == number - 1 and fits_kind(later, book.marks_of(situation[0]), kind, situation):
            return (row, kind)
    return None
