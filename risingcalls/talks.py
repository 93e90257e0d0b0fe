"""Talks: what is said if a system is played by a couple, alone or against foes."""

from risingcalls.basics import STOP, check_couple, is_sequence
from risingcalls.errors import BadFoe
from risingcalls.rows import all_foe_words, end_at, foe_words_of, is_ended, may_be_said, speaker_at, standing_at
from risingcalls.systems import word_said


class Talk:
    """A talk that came to its end."""

    def __init__(self, row, end):
        self.row = row
        self.end = end

    def __eq__(self, other):
        return isinstance(other, Talk) and self.row == other.row and self.end == other.end


class Gap:
    """A row at which the speaker, with this kind, has no answer."""

    def __init__(self, row, kind):
        self.row = row
        self.kind = kind

    def __eq__(self, other):
        return isinstance(other, Gap) and self.row == other.row and self.kind == other.kind


def foe_word_at(row, foe_words, ladder):
    """Return the foe's word behind the row: the next one, or silence if all are read."""
    index = len(row) // 2
    if index >= len(foe_words):
        return STOP
    if not may_be_said(foe_words[index], ladder, standing_at(row)):
        raise BadFoe(index)
    return foe_words[index]


def play_talk(system, couple, foe_words=()):
    """Return the Talk of the couple against these foes' words, or the Gap that it meets."""
    kinds = check_couple(system.sides, couple)
    if not is_sequence(foe_words):
        raise BadFoe(0)
    row = ()
    while not is_ended(row, system.foes):
        kind = kinds[speaker_at(row, system.foes)]
        word = word_said(system, row, kind)
        if word is None:
            return Gap(row, kind)
        row = row + (word,)
        if system.foes:
            row = row + (foe_word_at(row, foe_words, system.ladder),)
    return Talk(row, end_at(row, system.foes))


def talk_let(system, couple, foe_words):
    """Return the Talk or Gap against these foes' words, None if foes may not say them there."""
    try:
        return play_talk(system, couple, foe_words)
    except BadFoe:
        return None


def talk_reading(system, couple, foe_words):
    """Return the Talk or Gap that reads these foes' words whole, None if none does."""
    result = talk_let(system, couple, foe_words)
    return result if result is not None and len(foe_words) <= len(foe_words_of(result.row)) else None


def every_talk(system, couple):
    """Yield (foe words, Talk or Gap) for all foes' words that a talk of the couple reads whole."""
    kinds = check_couple(system.sides, couple)
    if not system.foes:
        yield ((), play_talk(system, kinds))
        return
    for foe_words in all_foe_words(system.ladder):
        result = talk_reading(system, kinds, foe_words)
        if result is not None:
            yield (foe_words, result)
