"""Beaten systems: the couples and the foes' words with which a system fails."""

from risingcalls.basics import STOP, check_couple, couples_in, lots_with
from risingcalls.errors import NotAlike
from risingcalls.foes import check_foe_leap
from risingcalls.heard import said_at, turns_of
from risingcalls.judging import knows_fault
from risingcalls.rows import called_words, end_at, foe_order, is_ended, speaker_at, standing_at
from risingcalls.systems import unlike_in
from risingcalls.talks import Gap


class Beaten:
    """A couple whose talk goes wrong against foes' words, in what, and the row of the talk."""

    def __init__(self, couple, foe_words, label, row):
        self.couple = couple
        self.foe_words = foe_words
        self.label = label
        self.row = row

    def __eq__(self, other):
        return (
            isinstance(other, Beaten)
            and self.couple == other.couple
            and self.foe_words == other.foe_words
            and self.label == other.label
            and self.row == other.row
        )


def check_against(goals, system):
    """Return the system, or raise NotAlike if it is none with foes for the goals."""
    what = unlike_in(goals, system, True)
    if what is not None:
        raise NotAlike(what)
    return system


def leap_in(row):
    """Return the greatest number by which a foe's call in the row is above what stands ahead of it."""
    places = [place for place in range(1, len(row), 2) if row[place] != STOP]
    return max([row[place] - standing_at(row[:place]) for place in places], default=0)


def mute_couples(system, turn):
    """Return the couples behind a turn whose speaker has no answer there, ascending."""
    row, lots = turn
    mute = tuple([kind for kind, word in said_at(system, turn) if word is None])
    return couples_in(lots_with(lots, speaker_at(row, True), mute)) if mute else ()


def failing_at(goals, system, turn):
    """Return a list of (couple, label) for the couples whose talk ends at the turn and goes wrong there."""
    row, lots = turn
    if not is_ended(row, True):
        return [(couple, "gap") for couple in mute_couples(system, turn)]
    failing = []
    for couple in couples_in(lots):
        if end_at(row, True) not in goals.ends_for(couple):
            failing.append((couple, "end"))
        elif knows_fault(goals.knows, lots, couple) is not None:
            failing.append((couple, "knows"))
    return failing


def wrong_talks(goals, system, leap):
    """Return a list of (couple, row, label) for all talks against foes of the leap that go wrong."""
    check_against(goals, system)
    found = []
    for turn in turns_of(system, leap):
        found.extend([(couple, turn[0], label) for couple, label in failing_at(goals, system, turn)])
    return found


def beaten_by(goals, system, leap):
    """Return the first couple and foes' words of the leap that beat the system, None if none do."""
    check_foe_leap(goals.ladder, leap)
    wrong = sorted(wrong_talks(goals, system, leap), key=lambda talk: (talk[0], foe_order(talk[1])))
    if not wrong:
        return None
    couple, row, label = wrong[0]
    return Beaten(couple, called_words(row), label, row)


def couples_beaten(goals, system, leap):
    """Return the couples whose talk goes wrong for some foes' words of the leap, ascending."""
    check_foe_leap(goals.ladder, leap)
    return tuple(sorted({couple for couple, row, label in wrong_talks(goals, system, leap)}))


def least_beating(goals, system):
    """Return the least leap with which foes beat the system, None if they do with none."""
    return min([leap_in(row) for couple, row, label in wrong_talks(goals, system, goals.ladder)], default=None)


def ends_against(system, couple, leap):
    """Return the ends that come for the couple against foes of the leap, ascending, or the first Gap."""
    kinds = check_couple(system.sides, couple)
    check_foe_leap(system.ladder, leap)
    if not system.foes:
        raise NotAlike("foes")
    turns = [(row, lots) for row, lots in turns_of(system, leap) if kinds in couples_in(lots)]
    gaps = [turn[0] for turn in turns if kinds in mute_couples(system, turn)]
    if gaps:
        row = min(gaps, key=foe_order)
        return Gap(row, kinds[speaker_at(row, True)])
    return tuple(sorted({end_at(row, True) for row, lots in turns if is_ended(row, True)}))
