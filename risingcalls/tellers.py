"""Tellers: systems that tell west every kind of east, and a judge of them."""

from risingcalls.basics import EAST, STOP, WEST, are_sides, check_ladder, couples_of
from risingcalls.counts import allowed_ends, counts_by_words, split_at, words_left
from risingcalls.errors import BadKinds
from risingcalls.heard import lots_at
from risingcalls.judging import knows_fault
from risingcalls.rows import next_words, speaker_at, standing_at
from risingcalls.speaking import system_spoken
from risingcalls.systems import check_plain
from risingcalls.talks import Gap, play_talk


def words_by_split(lot, split, words):
    """Return (kind, word) for the kinds of a lot, each word given to as many as the split lets."""
    slots = [word for word, many in zip(words, split) for _ in range(many)]
    return list(zip(lot, slots))


def asked_word(allowed, counts, words, standing, many):
    """Return the word behind which so many kinds of the partner can be told, if so many words are left."""
    if allowed[standing] >= many:
        return STOP
    told = counts[words - 1][0]
    return [call for call in range(standing + 1, len(told)) if told[call] >= many][0]


def tell_system(kinds, ladder, others=1, *, ends=None, words=None):
    """Return a plain system that tells west each of so many kinds of east within these ends and words."""
    check_ladder(ladder)
    allowed = allowed_ends(ladder, ends)
    most = words_left(ladder, words)
    counts = counts_by_words(allowed, most)
    if not are_sides((kinds, others)) or kinds > counts[most][0][0]:
        raise BadKinds()

    def speak(row, lots):
        standing, left = standing_at(row), most - len(row)
        if speaker_at(row, False) == EAST:
            split = split_at(allowed, counts, left, standing)
            return words_by_split(lots[EAST], split, next_words(ladder, standing))
        word = asked_word(allowed, counts, left, standing, len(lots[EAST]))
        return [(kind, word) for kind in lots[WEST]]

    return system_spoken((kinds, others), ladder, speak)


def telling_fault(system, couple, allowed, words, knows):
    """Return the first thing that is wrong with the couple's talk, None if nothing is."""
    result = play_talk(system, couple)
    if isinstance(result, Gap):
        return ("gap", result.row, result.kind)
    if len(result.row) > words:
        return ("words", couple)
    if not allowed[result.end]:
        return ("end", couple)
    return knows_fault(knows, lots_at(system, result.row), couple)


def tell_fault(system, *, ends=None, words=None, both=False):
    """Return None if the system tells east's kinds, and west's if both is true; else what is wrong first."""
    check_plain(system)
    allowed = allowed_ends(system.ladder, ends)
    most = words_left(system.ladder, words)
    for couple in couples_of(system.sides):
        fault = telling_fault(system, couple, allowed, most, (both, True))
        if fault is not None:
            return fault
    return None
