"""Counts: how many kinds can be told by plain talks, whatever the system."""

from risingcalls.basics import check_ladder, is_sequence, is_whole
from risingcalls.errors import BadEnd, BadEnds, BadKinds, BadWords

TOLD_LADDER_MOST = 30
COUNT_LADDER_MOST = 200


def allowed_ends(ladder, ends):
    """Return a list of 1 for each end 0 to ladder that is allowed, 0 for the others, or raise BadEnds."""
    if ends is None:
        return [1] * (ladder + 1)
    if not is_sequence(ends) or not all([is_whole(end, 0, ladder) for end in ends]):
        raise BadEnds()
    return [1 if end in ends else 0 for end in range(ladder + 1)]


def words_left(ladder, words):
    """Return how many words a talk may have, no more than it can have, or raise BadWords."""
    if words is not None and not is_whole(words, 1):
        raise BadWords()
    return ladder + 1 if words is None else min(words, ladder + 1)


def counts_by_words(allowed, words):
    """Return for 0 words left and each more, up to so many, a pair of lists by the call that stands.

    The first list has the most kinds that the side that speaks next can tell, the second one the most kinds
    that its partner can tell behind it.
    """
    nobody = [0] * len(allowed)
    found = [(nobody, nobody)]
    for _ in range(words):
        told, asked = found[-1]
        speaking = [let + sum(asked[end + 1:]) for end, let in enumerate(allowed)]
        waiting = [max([let] + told[end + 1:]) for end, let in enumerate(allowed)]
        found.append((speaking, waiting))
    return found


def split_at(allowed, counts, words, end):
    """Return how the most kinds part by their word, first for stop, if so many words are left."""
    return (allowed[end],) + tuple(counts[words - 1][1][end + 1:])


def told_split(ladder, *, ends=None, words=None, end=0):
    """Return how the most kinds of east that can be told part by east's word, first for stop."""
    check_ladder(ladder, TOLD_LADDER_MOST)
    allowed = allowed_ends(ladder, ends)
    most = words_left(ladder, words)
    if not is_whole(end, 0, ladder):
        raise BadEnd()
    return split_at(allowed, counts_by_words(allowed, most), most, end)


def told_within(ladder, *, ends=None, words=None, end=0):
    """Return the most kinds of east that can be told within these ends and words where the end stands."""
    return sum(told_split(ladder, ends=ends, words=words, end=end))


def told_count(ladder):
    """Return the most kinds of east that can be told without bounds."""
    check_ladder(ladder, COUNT_LADDER_MOST)
    count, later = 1, 2
    for _ in range(ladder):
        count, later = later, count + later
    return count


def asked_count(ladder):
    """Return the most kinds of west that can be told without bounds, east speaking first."""
    check_ladder(ladder, COUNT_LADDER_MOST)
    return told_count(ladder - 1) if ladder > 0 else 1


def least_told(kinds):
    """Return the least ladder by which so many kinds of east can be told."""
    if not is_whole(kinds, 1, told_count(COUNT_LADDER_MOST)):
        raise BadKinds()
    ladder = 0
    while told_count(ladder) < kinds:
        ladder += 1
    return ladder
