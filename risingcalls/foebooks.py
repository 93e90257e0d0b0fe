"""Books of foes: what foes say at which rows, and the talks against them."""

from risingcalls.basics import LADDER_MOST, STOP, check_couple, check_ladder, is_sequence, is_whole
from risingcalls.errors import BadFoeBook, NotAlike
from risingcalls.rows import check_row, end_at, is_ended, is_row, may_be_said, speaker_at, standing_at
from risingcalls.systems import word_said
from risingcalls.talks import Gap, Talk


def foe_answer_fault(ladder, answer):
    """Return the label of what is wrong in a foes' answer taken alone, None if nothing is."""
    if not is_sequence(answer) or len(answer) != 2:
        return "answer"
    row, word = answer
    if not is_row(row, ladder, True) or len(row) % 2 == 0:
        return "row"
    if word == STOP or not may_be_said(word, ladder, standing_at(row)):
        return "word"
    return None


def checked_foe_words(ladder, answers):
    """Return a dict of the foes' word at each row, or raise BadFoeBook for the first wrong answer."""
    words = {}
    for index, answer in enumerate(answers):
        what = foe_answer_fault(ladder, answer)
        if what is not None:
            raise BadFoeBook(index, what)
        row = tuple(answer[0])
        if row in words:
            raise BadFoeBook(index, "twice")
        words[row] = answer[1]
    return words


class FoeBook:
    """The foes' calls at rows with foes; at every other row they are silent."""

    def __init__(self, ladder, answers):
        if not is_whole(ladder, 0, LADDER_MOST):
            raise BadFoeBook(0, "ladder")
        if not is_sequence(answers):
            raise BadFoeBook(0, "answers")
        self._words = checked_foe_words(ladder, answers)
        self.ladder = ladder
        rows = sorted(list(self._words), key=lambda row: (len(row), row))
        self.answers = tuple([(row, self._words[row]) for row in rows])

    def __eq__(self, other):
        return isinstance(other, FoeBook) and self.ladder == other.ladder and self.answers == other.answers

    def __len__(self):
        return len(self.answers)

    @property
    def leap(self):
        """Return the greatest number by which a word is above what stands ahead of it, 0 without answers."""
        return max([word - standing_at(row) for row, word in self.answers], default=0)

    def word_for(self, row):
        """Return the foes' word at the row; 0 for any value without an answer."""
        if not is_sequence(row) or not all([is_whole(word) for word in row]):
            return STOP
        return self._words.get(tuple(row), STOP)


def play_against(system, couple, book):
    """Return the Talk or the Gap of the couple if the foes say the book's words."""
    kinds = check_couple(system.sides, couple)
    if not system.foes:
        raise NotAlike("foes")
    if system.ladder != book.ladder:
        raise NotAlike("ladder")
    row = ()
    while not is_ended(row, True):
        kind = kinds[speaker_at(row, True)]
        word = word_said(system, row, kind)
        if word is None:
            return Gap(row, kind)
        row = row + (word,)
        row = row + (book.word_for(row),)
    return Talk(row, end_at(row, True))


def book_along(ladder, row):
    """Return the FoeBook with the foes' calls in a row with foes, each at the row ahead of it."""
    check_ladder(ladder)
    words = check_row(row, ladder, True)
    places = [place for place in range(1, len(words), 2) if words[place] != STOP]
    return FoeBook(ladder, [(words[:place], words[place]) for place in places])
