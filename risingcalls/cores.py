"""Cores: the least lots that are lost, and the greatest lots that are won."""

from risingcalls.basics import EAST, KINDS_MOST, WEST, all_lots
from risingcalls.masks import lot_of, mask_of, masks_in
from risingcalls.ways import Ways


def pairs_won(goals):
    """Return a dict of whether the stand at which all begins is won, for all pairs of masks."""
    lots = all_lots(goals.sides)
    ways = Ways(goals, lots)
    masks = [[mask for mask in masks_in(mask_of(lot)) if mask > 0] for lot in lots]
    return {(east, west): ways.worth((east, west, 0, EAST)) > 0 for east in masks[EAST] for west in masks[WEST]}


def pairs_beside(pair):
    """Return a list of what becomes of a pair of masks if one kind of a side is put in or taken out."""
    east, west = pair
    bits = [1 << kind for kind in range(KINDS_MOST)]
    return [(east ^ bit, west) for bit in bits] + [(east, west ^ bit) for bit in bits]


def utmost_pairs(goals, won):
    """Return the pairs of lots that are won and greatest, or that are lost and least, ascending."""
    pairs = pairs_won(goals)
    found = []
    for pair in [pair for pair in pairs if pairs[pair] == won]:
        # a pair with a kind more stands behind this one in the order of tuples, one with a kind less ahead
        further = [other for other in pairs_beside(pair) if other in pairs and (other > pair) == won]
        if not any([pairs[other] == won for other in further]):
            found.append((lot_of(pair[EAST]), lot_of(pair[WEST])))
    return tuple(sorted(found))


def lost_cores(goals):
    """Return all pairs (east lot, west lot) that are lost and least, ascending."""
    return utmost_pairs(goals, False)


def won_lots(goals):
    """Return all pairs (east lot, west lot) that are won and greatest, ascending."""
    return utmost_pairs(goals, True)
