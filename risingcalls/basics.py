"""Whole numbers, sides, couples, lots and orders."""

from risingcalls.errors import BadCouple, BadKind, BadLadder, BadLot, BadSide

EAST = 0
WEST = 1
STOP = 0
LADDER_MOST = 6
KINDS_MOST = 6
COUPLES_MOST = 12


def is_whole(thing, low=None, high=None):
    """Return whether a value is a whole number, from low to high where these are told."""
    # bool is a kind of int to Python, but True and False are no whole numbers here
    if isinstance(thing, bool) or not isinstance(thing, int):
        return False
    if low is not None and thing < low:
        return False
    return high is None or thing <= high


def is_truth(thing):
    """Return whether a value is True or False; 1 and 0 are neither."""
    return thing is True or thing is False


def is_sequence(thing):
    """Return whether a value is a list or a tuple."""
    return isinstance(thing, (list, tuple))


def other_side(side):
    """Return the partner's side."""
    return WEST if side == EAST else EAST


def check_side(side):
    """Return the side, or raise BadSide."""
    if not is_whole(side, EAST, WEST):
        raise BadSide()
    return side


def are_sides(thing):
    """Return whether a value is a list or tuple of numbers of kinds that a world may have."""
    if not is_sequence(thing) or len(thing) != 2:
        return False
    if not all([is_whole(kinds, 1, KINDS_MOST) for kinds in thing]):
        return False
    return thing[EAST] * thing[WEST] <= COUPLES_MOST


def couples_of(sides):
    """Return all couples (east kind, west kind), ascending."""
    return tuple([(east, west) for east in range(sides[EAST]) for west in range(sides[WEST])])


def couples_in(lots):
    """Return all couples of a kind of the one lot and a kind of the other, ascending."""
    return tuple([(east, west) for east in lots[EAST] for west in lots[WEST]])


def check_couple(sides, couple):
    """Return the couple as a tuple, or raise BadCouple."""
    if not is_sequence(couple) or len(couple) != 2:
        raise BadCouple()
    for side in (EAST, WEST):
        if not is_whole(couple[side], 0, sides[side] - 1):
            raise BadCouple()
    return tuple(couple)


def check_kind(kind, kinds):
    """Return the kind, or raise BadKind if it is none of so many."""
    if not is_whole(kind, 0, kinds - 1):
        raise BadKind()
    return kind


def check_ladder(ladder, most=LADDER_MOST):
    """Return the ladder, or raise BadLadder."""
    if not is_whole(ladder, 0, most):
        raise BadLadder()
    return ladder


def are_kinds(thing, kinds):
    """Return whether a value is a list or tuple of kinds, in any order."""
    return is_sequence(thing) and all([is_whole(kind, 0, kinds - 1) for kind in thing])


def is_lot(thing, kinds):
    """Return whether a value is a lot of so many kinds."""
    return are_kinds(thing, kinds) and len(thing) > 0 and list(thing) == sorted(set(thing))


def check_lot(lot, kinds, side):
    """Return the lot as a tuple, or raise BadLot for the side."""
    if not is_lot(lot, kinds):
        raise BadLot(side)
    return tuple(lot)


def is_order(thing, many):
    """Return whether a value has each of so many kinds once, in any order."""
    return are_kinds(thing, many) and sorted(thing) == list(range(many))


def check_side_order(order, kinds, side):
    """Return the order of the side's kinds as a tuple, or raise BadLot for the side."""
    if not is_order(order, kinds):
        raise BadLot(side)
    return tuple(order)


def all_lots(sides):
    """Return the lots of all kinds, (east lot, west lot)."""
    return (tuple(range(sides[EAST])), tuple(range(sides[WEST])))


def lots_with(lots, side, lot):
    """Return the lots with another one for the side."""
    return (lot, lots[WEST]) if side == EAST else (lots[EAST], lot)
