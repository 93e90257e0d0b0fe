"""What is known: needed answers, what a row tells, when a kind is told, and which kinds speak alike."""

from risingcalls.basics import check_couple, check_kind, check_side, couples_in, other_side
from risingcalls.errors import HasGap
from risingcalls.heard import check_whole, ended_lots, lots_along, lots_at, needed_answers, turns_of
from risingcalls.rows import speaker_at
from risingcalls.systems import System, word_said
from risingcalls.talks import Gap, play_talk


def needless_answers(system):
    """Return the answers that no talk uses, in their order."""
    needed = {(row, kind): True for row, kind, word in needed_answers(system)}
    return tuple([answer for answer in system.answers if answer[:2] not in needed])


def trimmed_system(system):
    """Return the system of the needed answers alone."""
    return System(system.sides, system.ladder, list(needed_answers(system)), system.foes)


def couples_at(system, row):
    """Return the couples that an outsider thinks possible behind the row, ascending."""
    return couples_in(lots_at(system, row))


def knows_at(system, row, side, kind):
    """Return the kinds of the other side that the side, holding the kind, thinks possible behind the row."""
    check_side(side)
    lots = lots_at(system, row)
    check_kind(kind, system.sides[side])
    return lots[other_side(side)] if kind in lots[side] else ()


def first_told(system, couple, side, foe_words=()):
    """Return after how many words of the talk the side's kind is told first, None if it never is."""
    check_couple(system.sides, couple)
    check_side(side)
    result = play_talk(system, couple, foe_words)
    if isinstance(result, Gap):
        raise HasGap(result.row, result.kind)
    told = [words for words, lots in enumerate(lots_along(system, result.row)) if len(lots[side]) == 1]
    return told[0] if told else None


def does_tell(system, side):
    """Return whether the side's kind is told behind each ended row that can come."""
    check_side(side)
    check_whole(system)
    return all([len(ended[1 + side]) == 1 for ended in ended_lots(system)])


def first_apart(system, side, kind, other):
    """Return the first row that can come at which two kinds of the side speak unlike, None if there is none."""
    check_side(side)
    check_kind(kind, system.sides[side])
    check_kind(other, system.sides[side])
    for row, lots in turns_of(system):
        both = speaker_at(row, system.foes) == side and kind in lots[side] and other in lots[side]
        if both and word_said(system, row, kind) != word_said(system, row, other):
            return row
    return None
