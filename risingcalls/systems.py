"""Systems: which word each kind answers to each row."""

from risingcalls.basics import LADDER_MOST, are_sides, is_sequence, is_truth, is_whole
from risingcalls.errors import BadSystem, HasFoes, NoAnswer
from risingcalls.rows import is_row, may_be_said, speaker_at, standing_at


def answer_fault(sides, ladder, foes, answer):
    """Return the label of what is wrong in an answer taken alone, None if nothing is."""
    if not is_sequence(answer) or len(answer) != 3:
        return "answer"
    row, kind, word = answer
    speaker = speaker_at(row, foes) if is_row(row, ladder, foes) else None
    if speaker is None:
        return "row"
    if not is_whole(kind, 0, sides[speaker] - 1):
        return "kind"
    if not may_be_said(word, ladder, standing_at(row)):
        return "word"
    return None


def head_fault(sides, ladder, foes):
    """Return the label of what is wrong ahead of the answers, None if nothing is."""
    if not are_sides(sides):
        return "sides"
    if not is_whole(ladder, 0, LADDER_MOST):
        return "ladder"
    return None if is_truth(foes) else "foes"


def answer_place(row, kind):
    """Return (row, kind) with the row as a tuple, None if no answer can stand there."""
    if not is_sequence(row) or not all([is_whole(word) for word in row]) or not is_whole(kind):
        return None
    return (tuple(row), kind)


def checked_words(sides, ladder, answers, foes):
    """Return a dict of the word at each (row, kind), or raise BadSystem for the first wrong answer."""
    words = {}
    for index, answer in enumerate(answers):
        what = answer_fault(sides, ladder, foes, answer)
        if what is not None:
            raise BadSystem(index, what)
        place = answer_place(answer[0], answer[1])
        if place in words:
            raise BadSystem(index, "twice")
        words[place] = answer[2]
    return words


class System:
    """The words that the kinds of both sides answer to rows."""

    def __init__(self, sides, ladder, answers, foes=False):
        what = head_fault(sides, ladder, foes)
        if what is None and not is_sequence(answers):
            what = "answers"
        if what is not None:
            raise BadSystem(0, what)
        self._words = checked_words(sides, ladder, answers, foes)
        self.sides = tuple(sides)
        self.ladder = ladder
        places = sorted(list(self._words), key=lambda place: (len(place[0]), place))
        self.answers = tuple([(row, kind, self._words[(row, kind)]) for row, kind in places])
        self.foes = foes

    def __eq__(self, other):
        return (
            isinstance(other, System)
            and self.sides == other.sides
            and self.ladder == other.ladder
            and self.answers == other.answers
            and self.foes == other.foes
        )

    def __len__(self):
        return len(self.answers)

    def __iter__(self):
        return iter(self.answers)

    def answer_for(self, row, kind):
        """Return the word to the row and the kind, or raise NoAnswer."""
        place = answer_place(row, kind)
        if place not in self._words:
            raise NoAnswer(tuple(row) if is_sequence(row) else None)
        return self._words[place]

    def has_answer(self, row, kind):
        """Return whether there is an answer to the row and the kind."""
        return answer_place(row, kind) in self._words

    def with_answer(self, row, kind, word):
        """Return a system with this answer in the place of any to the same row and kind."""
        what = answer_fault(self.sides, self.ladder, self.foes, (row, kind, word))
        if what is not None:
            raise BadSystem(0, what)
        others = answers_but(self, row, kind)
        return System(self.sides, self.ladder, others + [(row, kind, word)], self.foes)

    def without_answer(self, row, kind):
        """Return a system without the answer to the row and the kind."""
        return System(self.sides, self.ladder, answers_but(self, row, kind), self.foes)


def check_plain(system):
    """Return the system, or raise HasFoes."""
    if system.foes:
        raise HasFoes()
    return system


def unlike_in(world, system, foes):
    """Return in what the system is none for a world of such sides, ladder and talks, None if it is one."""
    if system.sides != world.sides:
        return "sides"
    if system.ladder != world.ladder:
        return "ladder"
    return None if system.foes == foes else "foes"


def answers_but(system, row, kind):
    """Return a list of the answers but for the one to the row and the kind."""
    place = answer_place(row, kind)
    return [answer for answer in system.answers if answer[:2] != place]


def word_said(system, row, kind):
    """Return the answer to the row and the kind, None if there is none."""
    return system.answer_for(row, kind) if system.has_answer(row, kind) else None
