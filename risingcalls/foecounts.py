"""Counts against foes: how many kinds can be told whatever foes of a leap say, and systems that tell them."""

from risingcalls.basics import KINDS_MOST, check_ladder, is_whole
from risingcalls.counts import COUNT_LADDER_MOST
from risingcalls.decidingfoes import decide_foes
from risingcalls.errors import BadKinds
from risingcalls.foes import check_foe_leap
from risingcalls.goals import Goals

FOE_LADDER_MOST = 60


def counts_up_to(ladder, leap):
    """Return a list of the counts against foes of the leap for the ladders 0 to this one, also below the leap."""
    counts = [1]
    for below in range(ladder):
        # a ladder more lets east call 1; foes then take up to a leap, the partner a call, foes a leap again
        later = counts[max(0, below - 2 * leap - 1)] if below > leap else 1
        counts.append(counts[-1] + later)
    return counts


def foe_count(ladder, leap):
    """Return the most kinds of east that can be told to west against foes of the leap."""
    check_ladder(ladder, COUNT_LADDER_MOST)
    check_foe_leap(ladder, leap)
    return counts_up_to(ladder, leap)[ladder]


def foe_counts(ladder):
    """Return the counts for each leap from 0 to the ladder."""
    check_ladder(ladder, FOE_LADDER_MOST)
    return tuple([foe_count(ladder, leap) for leap in range(ladder + 1)])


def least_ladder(kinds, leap):
    """Return the least ladder, not below the leap, by which so many kinds can be told against its foes."""
    check_foe_leap(FOE_LADDER_MOST, leap)
    if not is_whole(kinds, 1, FOE_LADDER_MOST):
        raise BadKinds()
    ladder = leap
    while foe_count(ladder, leap) < kinds:
        ladder += 1
    return ladder


def foe_system(kinds, ladder, leap):
    """Return a system with foes that tells so many kinds of east to one of west against foes of the leap."""
    check_ladder(ladder)
    most = min(KINDS_MOST, foe_count(ladder, leap))
    if not is_whole(kinds, 1, most):
        raise BadKinds()
    return decide_foes(Goals.all_wanted((kinds, 1), ladder, (False, True)), leap).system
