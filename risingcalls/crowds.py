"""Crowds: where a plain system with more kinds of east than can be told fails."""

from risingcalls.basics import EAST, STOP, WEST, all_lots, check_kind
from risingcalls.counts import allowed_ends, counts_by_words, split_at, words_left
from risingcalls.heard import parts_by_word
from risingcalls.rows import speaker_at, standing_at
from risingcalls.systems import check_plain, word_said
from risingcalls.talks import Gap


class Crowd:
    """A row behind which east's kinds of the lot are not told within the bounds."""

    def __init__(self, row, lot, label):
        self.row = row
        self.lot = lot
        self.label = label

    def __eq__(self, other):
        return (
            isinstance(other, Crowd)
            and self.row == other.row
            and self.lot == other.lot
            and self.label == other.label
        )


def crowded_part(said, standing, split):
    """Return (word, part) for the least word that more kinds say than the split, by the words' order, lets."""
    for word, part in parts_by_word(said):
        place = 0 if word == STOP else word - standing
        if len(part) > split[place]:
            return (word, part)
    return None


def step_along(system, kind, row, lot, split):
    """Return (word, lot) behind the row on the way to a crowd, or the Gap that is met."""
    if speaker_at(row, False) == WEST:
        word = word_said(system, row, kind)
        return Gap(row, kind) if word is None else (word, lot)
    said = [(east, word_said(system, row, east)) for east in lot]
    mute = [east for east, word in said if word is None]
    return Gap(row, mute[0]) if mute else crowded_part(said, standing_at(row), split)


def crowd_of(system, kind=0, *, ends=None, words=None):
    """Return the Crowd or Gap to which too many kinds of east lead; None if there are not too many."""
    check_plain(system)
    check_kind(kind, system.sides[WEST])
    allowed = allowed_ends(system.ladder, ends)
    most = words_left(system.ladder, words)
    counts = counts_by_words(allowed, most)
    if system.sides[EAST] <= counts[most][0][0]:
        return None
    row, lot = (), all_lots(system.sides)[EAST]
    while STOP not in row:
        left = most - len(row)
        if left == 0:
            return Crowd(row, lot, "words")
        step = step_along(system, kind, row, lot, split_at(allowed, counts, left, standing_at(row)))
        if isinstance(step, Gap):
            return step
        row, lot = row + (step[0],), step[1]
    return Crowd(row, lot, "told" if allowed[standing_at(row)] else "end")
