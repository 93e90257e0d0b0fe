"""Alike systems: systems with the same talks, the same ends, or the same knowledge."""

from risingcalls.basics import couples_of
from risingcalls.heard import lots_at
from risingcalls.rows import all_foe_words
from risingcalls.talks import Talk, talk_let
from risingcalls.turned import check_alike


class Parting:
    """A couple and foes' words for which two systems' talks differ, and the row at which they part."""

    def __init__(self, couple, foe_words, row):
        self.couple = couple
        self.foe_words = foe_words
        self.row = row

    def __eq__(self, other):
        return (
            isinstance(other, Parting)
            and self.couple == other.couple
            and self.foe_words == other.foe_words
            and self.row == other.row
        )


def first_unlike(one, other, look):
    """Return the first (couple, foe words) whose talks look unlike, None if there is none.

    look(system, talk) tells what counts of a Talk or a Gap of a system.
    """
    check_alike(one, other)
    said = list(all_foe_words(one.ladder)) if one.foes else [()]
    for couple in couples_of(one.sides):
        for foe_words in said:
            talks = (talk_let(one, couple, foe_words), talk_let(other, couple, foe_words))
            # words that foes may not say in either talk count for nothing
            let = talks[0] is not None and talks[1] is not None
            if let and look(one, talks[0]) != look(other, talks[1]):
                return (couple, foe_words)
    return None


def row_in_common(row, other):
    """Return the longest row with which both rows begin."""
    length = 0
    while row[:length + 1] == other[:length + 1] and length < len(row):
        length += 1
    return row[:length]


def first_parting(one, other):
    """Return the Parting of the first talks that differ, None if the systems are alike."""
    found = first_unlike(one, other, lambda system, talk: talk)
    if found is None:
        return None
    couple, foe_words = found
    rows = [talk_let(system, couple, foe_words).row for system in (one, other)]
    return Parting(couple, foe_words, row_in_common(rows[0], rows[1]))


def are_alike(one, other):
    """Return whether all talks of the two systems are the same."""
    return first_parting(one, other) is None


def unlike_end(one, other):
    """Return the first (couple, foe words) for which the ends differ, None if there is none; a Gap has no end."""
    return first_unlike(one, other, lambda system, talk: talk.end if isinstance(talk, Talk) else None)


def same_ends(one, other):
    """Return whether all talks of the two systems end alike."""
    return unlike_end(one, other) is None


def unlike_lots(one, other):
    """Return the first (couple, foe words) behind whose talks the lots differ, None if there is none."""
    return first_unlike(one, other, lambda system, talk: lots_at(system, talk.row))


def same_knowledge(one, other):
    """Return whether behind all talks of the two systems the same is known."""
    return unlike_lots(one, other) is None
