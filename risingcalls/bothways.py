"""Systems in which the kinds of both sides are told to each other."""

from risingcalls.basics import are_sides, check_ladder
from risingcalls.counts import allowed_ends
from risingcalls.deciding import decide_goals
from risingcalls.errors import BadKinds
from risingcalls.goals import Goals
from risingcalls.staircases import serves_both


def both_system(p, q, ladder, *, ends=None):
    """Return a plain system that tells p kinds of east and q kinds of west to each other within these ends."""
    check_ladder(ladder)
    allowed = allowed_ends(ladder, ends)
    if not are_sides((p, q)) or not serves_both(ladder, p, q, ends=ends):
        raise BadKinds()
    wanted = [end for end, let in enumerate(allowed) if let]
    # both sides must know, so a served couple is just one whose goals are won
    return decide_goals(Goals(ladder, [[wanted] * q] * p, (True, True))).system
