"""Texts of goals, and the parts of texts that other texts share."""

from risingcalls.basics import EAST, LADDER_MOST, WEST, are_sides, couples_of
from risingcalls.errors import BadText
from risingcalls.goals import Goals

FIGURES = "0123456789"
FIGURES_MOST = 6


def yes_or_no(truth):
    """Return the word for True or False."""
    return "yes" if truth else "no"


def goals_text(goals):
    """Return the lines of the goals, with a line feed between two."""
    lines = [
        f"ladder {goals.ladder}",
        f"sides {goals.sides[EAST]} {goals.sides[WEST]}",
        f"knows {yes_or_no(goals.knows[EAST])} {yes_or_no(goals.knows[WEST])}",
    ]
    for east, west in couples_of(goals.sides):
        ends = " ".join([str(end) for end in goals.wanted[east][west]])
        lines.append(f"{east} {west}: {ends}")
    return "\n".join(lines)


def number_from(word):
    """Return the number that a word writes plainly, None if it writes none."""
    if not 1 <= len(word) <= FIGURES_MOST or not all([sign in FIGURES for sign in word]):
        return None
    if word.startswith("0") and len(word) > 1:
        return None
    return int(word)


def end_from(word):
    """Return the end that a word writes plainly, None if it writes none."""
    if not word.startswith("-"):
        return number_from(word)
    call = number_from(word[1:])
    return -call if call else None


def numbers_from(text):
    """Return the numbers that a text has, one blank between two; None stands for each other word."""
    return [number_from(word) for word in text.split(" ")]


def words_behind(lines, number, head, many):
    """Return the words behind the head of the line of this number, or raise BadText."""
    if number > len(lines):
        raise BadText(number, "missing")
    words = lines[number - 1].split(" ")
    if words[0] != head or len(words) != many + 1:
        raise BadText(number, "form")
    return words[1:]


def numbers_behind(lines, number, head, many):
    """Return the numbers behind the head of the line of this number, or raise BadText."""
    numbers = [number_from(word) for word in words_behind(lines, number, head, many)]
    if None in numbers:
        raise BadText(number, "form")
    return numbers


def read_ladder(lines):
    """Return the ladder that the first line tells, or raise BadText."""
    ladder = numbers_behind(lines, 1, "ladder", 1)[0]
    if ladder > LADDER_MOST:
        raise BadText(1, "range")
    return ladder


def read_sides(lines):
    """Return the sides that the second line tells, or raise BadText."""
    sides = numbers_behind(lines, 2, "sides", 2)
    if not are_sides(sides):
        raise BadText(2, "range")
    return tuple(sides)


def read_truths(lines, head, many):
    """Return what the third line tells by yes and no, or raise BadText."""
    words = words_behind(lines, 3, head, many)
    if not all([word in ("yes", "no") for word in words]):
        raise BadText(3, "form")
    return tuple([word == "yes" for word in words])


def read_ends(lines, number, couple, ladder):
    """Return the ends that the line of this number tells of the couple, or raise BadText."""
    if number > len(lines):
        raise BadText(number, "missing")
    head, _, tail = lines[number - 1].partition(": ")
    kinds = numbers_from(head)
    ends = [end_from(word) for word in tail.split(" ")]
    if len(kinds) != 2 or None in kinds or None in ends:
        raise BadText(number, "form")
    if tuple(kinds) != couple:
        raise BadText(number, "couple")
    if not all([-ladder <= end <= ladder for end in ends]):
        raise BadText(number, "range")
    if ends != sorted(set(ends)):
        raise BadText(number, "order")
    return ends


def read_goals(text):
    """Return the goals whose text this is, or raise BadText for the first wrong line."""
    lines = text.split("\n")
    ladder = read_ladder(lines)
    sides = read_sides(lines)
    knows = read_truths(lines, "knows", 2)
    wanted = [[] for _ in range(sides[EAST])]
    number = 3
    for couple in couples_of(sides):
        number += 1
        wanted[couple[EAST]].append(read_ends(lines, number, couple, ladder))
    if len(lines) > number:
        raise BadText(number + 1, "more")
    return Goals(ladder, wanted, knows)
