"""Systems with foes and plain systems: what silent foes make of the one and of the other."""

from risingcalls.errors import NotAlike
from risingcalls.rows import foe_words_of, standing_at
from risingcalls.systems import System


def plain_part(system):
    """Return the plain system that a system with foes is among silent foes."""
    if not system.foes:
        raise NotAlike("foes")
    silent = [answer for answer in system.answers if standing_at(foe_words_of(answer[0])) == 0]
    return System(system.sides, system.ladder, [(row[::2], kind, word) for row, kind, word in silent])


def with_silence(system):
    """Return the system with foes of a plain one: each answer at its row with a silent foe behind each word."""
    if system.foes:
        raise NotAlike("foes")
    answers = []
    for row, kind, word in system.answers:
        answers.append(([heard for said in row for heard in (said, 0)], kind, word))
    return System(system.sides, system.ladder, answers, True)
