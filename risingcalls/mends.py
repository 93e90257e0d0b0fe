"""Mends: wishes for plain systems, and which changes of a pool meet them."""

from risingcalls.basics import EAST, WEST, is_sequence, is_whole
from risingcalls.changes import check_changes, system_behind
from risingcalls.costs import Costs, Weights
from risingcalls.errors import BadChange, BadWish
from risingcalls.goals import Goals
from risingcalls.heard import ended_lots, is_whole_system
from risingcalls.judging import system_fault
from risingcalls.knowing import does_tell
from risingcalls.picks import all_picks
from risingcalls.rows import standing_at
from risingcalls.slipwins import slip_fault
from risingcalls.systems import check_plain
from risingcalls.totals import total_of

POOL_MOST = 5


class Spoiler:
    """A least pick, a place more with which a wish is denied, and the first such wish."""

    def __init__(self, pick, extra, denied):
        self.pick = pick
        self.extra = extra
        self.denied = denied

    def __eq__(self, other):
        return (
            isinstance(other, Spoiler)
            and self.pick == other.pick
            and self.extra == other.extra
            and self.denied == other.denied
        )


def is_of_world(thing, system):
    """Return whether goals or costs have the sides and the ladder of the system."""
    return thing.sides == system.sides and thing.ladder == system.ladder


def are_goals(thing, system):
    """Return whether a value is goals for the system."""
    return isinstance(thing, Goals) and is_of_world(thing, system)


def are_costs(thing, weights, system):
    """Return whether two values are costs and weights for the system."""
    if not isinstance(thing, Costs) or not isinstance(weights, Weights):
        return False
    return is_of_world(thing, system) and weights.sides == system.sides


def is_wish(thing, system):
    """Return whether a value is a wish for the system."""
    if not is_sequence(thing) or len(thing) < 2:
        return False
    name, parts = thing[0], thing[1:]
    if len(parts) == 1:
        if name == "won":
            return are_goals(parts[0], system)
        if name == "ends":
            return is_whole(parts[0], 0, system.ladder)
        return name == "tells" and is_whole(parts[0], EAST, WEST)
    if len(parts) == 2:
        return name == "slips" and are_goals(parts[0], system) and is_whole(parts[1], 0)
    return len(parts) == 3 and name == "total" and are_costs(parts[0], parts[1], system) and is_whole(parts[2], 0)


def check_wishes(system, wishes):
    """Return the wishes, or raise BadWish."""
    if not is_sequence(wishes):
        raise BadWish(0)
    for index, wish in enumerate(wishes):
        if not is_wish(wish, system):
            raise BadWish(index)
    return wishes


def is_met(system, wish):
    """Return whether a plain system without a gap meets the wish."""
    name, parts = wish[0], wish[1:]
    if name == "won":
        return system_fault(parts[0], system) is None
    if name == "slips":
        return slip_fault(parts[0], system, parts[1]) is None
    if name == "ends":
        return all([standing_at(ended[0]) <= parts[0] for ended in ended_lots(system)])
    if name == "tells":
        return does_tell(system, parts[0])
    return total_of(parts[0], parts[1], system) <= parts[2]


def denied_by(system, wishes):
    """Return the place of the first wish that a plain system does not meet, None if it meets all."""
    whole = is_whole_system(system)
    for place, wish in enumerate(wishes):
        if not whole or not is_met(system, wish):
            return place
    return None


def first_denied(system, wishes):
    """Return the place of the first wish that is not met, None if all are."""
    check_plain(system)
    return denied_by(system, check_wishes(system, wishes))


def check_pool(system, pool):
    """Return the changes of a pool as tuples, or raise BadChange."""
    if not is_sequence(pool) or not is_whole(len(pool), 1, POOL_MOST):
        raise BadChange(0, "pool")
    return check_changes(system, pool)


def denied_behind(system, pool, wishes, pick):
    """Return the place of the first wish that is not met behind the pick's changes, None if all are."""
    return denied_by(system_behind(system, [pool[place] for place in pick]), wishes)


def least_picks(system, pool, wishes):
    """Return a list of all least picks of a checked pool, shorter ones first, then ascending."""
    found = []
    for pick in all_picks(len(pool)):
        # the lesser picks came first, so one behind which all is met holds a pick that was found
        lesser = [less for less in found if all([place in pick for place in less])]
        if not lesser and denied_behind(system, pool, wishes, pick) is None:
            found.append(pick)
    return found


def least_mends(system, pool, wishes):
    """Return all least picks of changes behind which all wishes are met."""
    check_plain(system)
    changes = check_pool(system, pool)
    return tuple(least_picks(system, changes, check_wishes(system, wishes)))


def find_spoilers(system, pool, wishes):
    """Return a Spoiler for each least pick and each place more with which it does not meet all wishes."""
    check_plain(system)
    changes = check_pool(system, pool)
    check_wishes(system, wishes)
    found = []
    for pick in least_picks(system, changes, wishes):
        for extra in [place for place in range(len(changes)) if place not in pick]:
            denied = denied_behind(system, changes, wishes, sorted(pick + (extra,)))
            if denied is not None:
                found.append(Spoiler(pick, extra, denied))
    return tuple(found)
