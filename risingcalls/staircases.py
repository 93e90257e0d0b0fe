"""Staircases: which numbers of kinds of both sides can be told to each other by plain talks."""

from risingcalls.basics import check_ladder, is_whole
from risingcalls.counts import allowed_ends, told_count
from risingcalls.errors import BadKinds

BOTH_LADDER_MOST = 8
LEAST_BOTH_MOST = 8


def greatest_answering(counts, many):
    """Return the greatest number of kinds behind whose call so many of the other side can still be told."""
    return max([kinds for kinds, most in enumerate(counts, 1) if most >= many], default=0)


def both_tables(allowed, most):
    """Return a list, for each call that stands, of the splits for 1 to so many kinds of the other side.

    A split has the most kinds of the side that speaks next that can say each word, first for stop.
    """
    calls = []
    found = []
    for let in allowed[::-1]:
        splits = [(let if many == 1 else 0,) + tuple([call[many - 1] for call in calls]) for many in range(1, most + 1)]
        counts = [sum(split) for split in splits]
        # behind a call the sides change their roles
        calls = [[greatest_answering(counts, many) for many in range(1, most + 1)]] + calls
        found = [splits] + found
    return found


def splits_first(ladder, ends):
    """Return the splits for each number of the other side's kinds where no call stands."""
    return both_tables(allowed_ends(ladder, ends), told_count(ladder))[0]


def split_for(ladder, q, ends):
    """Return the split for q kinds of west where no call stands."""
    splits = splits_first(ladder, ends)
    # more kinds than can be told without bounds are never told
    return splits[q - 1] if q <= len(splits) else (0,) * (ladder + 1)


def check_numbers(ladder, ends, numbers):
    """Raise the first error of the ladder, the ends and the numbers of kinds, if there is one."""
    check_ladder(ladder, BOTH_LADDER_MOST)
    allowed_ends(ladder, ends)
    if not all([is_whole(number, 1) for number in numbers]):
        raise BadKinds()


def most_both(ladder, q, *, ends=None):
    """Return the most kinds of east that are served beside q kinds of west, 0 if none are."""
    return sum(both_split(ladder, q, ends=ends))


def both_split(ladder, q, *, ends=None):
    """Return how the most kinds of east beside q kinds of west part by their word, first for stop."""
    check_numbers(ladder, ends, [q])
    return split_for(ladder, q, ends)


def serves_both(ladder, p, q, *, ends=None):
    """Return whether p kinds of east and q kinds of west can be told to each other."""
    check_numbers(ladder, ends, [p, q])
    return p <= sum(split_for(ladder, q, ends))


def staircase(ladder, *, ends=None):
    """Return the served couples (p, q) of which neither number can be greater, ascending."""
    check_numbers(ladder, ends, [])
    counts = [sum(split) for split in splits_first(ladder, ends)] + [0]
    steps = list(zip(counts, counts[1:]))
    return tuple(sorted([(many, q) for q, (many, further) in enumerate(steps, 1) if many > further]))


def least_both(p, q):
    """Return the least ladder that serves p kinds of east and q kinds of west without bounds."""
    if not is_whole(p, 1, LEAST_BOTH_MOST) or not is_whole(q, 1, LEAST_BOTH_MOST):
        raise BadKinds()
    ladder = 0
    while p > sum(split_for(ladder, q, None)):
        ladder += 1
    return ladder
