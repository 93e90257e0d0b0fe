"""Texts of systems."""

from risingcalls.basics import EAST, WEST
from risingcalls.errors import BadText
from risingcalls.goaltext import number_from, numbers_from, read_ladder, read_sides, read_truths, yes_or_no
from risingcalls.systems import System, answer_fault

NO_WORD = "-"


def answer_text(row, kind, word):
    """Return the line of an answer."""
    words = " ".join([str(heard) for heard in row]) if row else NO_WORD
    return f"{words} | {kind}: {word}"


def system_text(system):
    """Return the lines of the system, with a line feed between two."""
    lines = [
        f"ladder {system.ladder}",
        f"sides {system.sides[EAST]} {system.sides[WEST]}",
        f"foes {yes_or_no(system.foes)}",
    ]
    return "\n".join(lines + [answer_text(row, kind, word) for row, kind, word in system.answers])


def answer_from(line):
    """Return the (row, kind, word) that a line writes, None if it is not of this form."""
    row_text, _, behind = line.partition(" | ")
    kind_text, _, word_text = behind.partition(": ")
    row = [] if row_text == NO_WORD else numbers_from(row_text)
    kind = number_from(kind_text)
    word = number_from(word_text)
    if None in row or kind is None or word is None:
        return None
    return (tuple(row), kind, word)


def place_of(answer):
    """Return by what answers are ordered: length of the row, row, kind."""
    return (len(answer[0]), answer[0], answer[1])


def read_answer(line, number, head):
    """Return the answer of the line of this number, or raise BadText; head is (sides, ladder, foes)."""
    answer = answer_from(line)
    if answer is None:
        raise BadText(number, "form")
    sides, ladder, foes = head
    what = answer_fault(sides, ladder, foes, answer)
    if what is not None:
        raise BadText(number, what)
    return answer


def read_system(text):
    """Return the system whose text this is, or raise BadText for the first wrong line."""
    lines = text.split("\n")
    ladder = read_ladder(lines)
    sides = read_sides(lines)
    foes = read_truths(lines, "foes", 1)[0]
    answers = []
    for number, line in enumerate(lines[3:], start=4):
        answer = read_answer(line, number, (sides, ladder, foes))
        if answers and place_of(answer) <= place_of(answers[-1]):
            raise BadText(number, "order")
        answers.append(answer)
    return System(sides, ladder, answers, foes)
