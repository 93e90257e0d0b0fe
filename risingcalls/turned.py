"""Systems made of systems."""

from risingcalls.basics import EAST, LADDER_MOST, WEST, all_lots, check_lot, check_side, check_side_order
from risingcalls.basics import is_whole, lots_with
from risingcalls.errors import BadSystem, NotAlike
from risingcalls.rows import raised_word, speaker_at
from risingcalls.systems import System, unlike_in


def system_with_kinds(system, lots):
    """Return the system in which each side's kind k is the entry k of its list of old kinds."""
    answers = []
    for row, kind, word in system.answers:
        olds = lots[speaker_at(row, system.foes)]
        if kind in olds:
            answers.append((row, olds.index(kind), word))
    return System((len(lots[EAST]), len(lots[WEST])), system.ladder, answers, system.foes)


def renumbered_system(system, side, order):
    """Return the system in which the side's kind order[k] is called k."""
    turned = check_side_order(order, system.sides[check_side(side)], side)
    return system_with_kinds(system, lots_with(all_lots(system.sides), side, turned))


def kept_system(system, east_lot, west_lot):
    """Return the system of the kinds of the lots; the lot's entry k is called k."""
    east = check_lot(east_lot, system.sides[EAST], EAST)
    west = check_lot(west_lot, system.sides[WEST], WEST)
    return system_with_kinds(system, (east, west))


def raised_system(system, by):
    """Return the system with the ladder and each call raised."""
    if not is_whole(by, 0, LADDER_MOST - system.ladder):
        raise BadSystem(0, "ladder")
    answers = [
        ([raised_word(heard, by) for heard in row], kind, raised_word(word, by))
        for row, kind, word in system.answers
    ]
    return System(system.sides, system.ladder + by, answers, system.foes)


def answers_of_side(system, side):
    """Return a list of the answers of one side."""
    return [answer for answer in system.answers if speaker_at(answer[0], system.foes) == side]


def check_alike(one, other):
    """Raise NotAlike if two systems differ in sides, ladder or foes."""
    what = unlike_in(one, other, one.foes)
    if what is not None:
        raise NotAlike(what)


def crossed_systems(one, other):
    """Return the system in which east answers as in the one, west as in the other."""
    check_alike(one, other)
    answers = answers_of_side(one, EAST) + answers_of_side(other, WEST)
    return System(one.sides, one.ladder, answers, one.foes)
