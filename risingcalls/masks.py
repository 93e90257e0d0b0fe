"""Masks: lots as numbers in which the bit of each kind is set, so that parts are gone through fast."""

from risingcalls.basics import EAST, KINDS_MOST, WEST, lots_with, other_side


def mask_of(lot):
    """Return the mask of a lot."""
    return sum([1 << kind for kind in lot])


def lot_of(mask):
    """Return the lot of a mask."""
    return tuple([kind for kind in range(KINDS_MOST) if mask >> kind & 1])


def is_several(mask):
    """Return whether a mask has more than one kind."""
    return mask & (mask - 1) != 0


def masks_in(mask):
    """Return a list of all masks within a mask, the greatest first, 0 last."""
    found = [mask]
    while found[-1] > 0:
        found.append((found[-1] - 1) & mask)
    return found


def masked_stand(stand):
    """Return the stand with masks in the place of its lots."""
    return (mask_of(stand[EAST]), mask_of(stand[WEST]), stand[2], stand[3])


def stand_of(masked):
    """Return the stand with lots in the place of its masks."""
    return (lot_of(masked[EAST]), lot_of(masked[WEST]), masked[2], masked[3])


def masked_after(part, other, end, speaker):
    """Return the masked stand at which the part of the speaker and the other lot are left and the end stands."""
    lots = lots_with((other, other), speaker, part)
    return (lots[EAST], lots[WEST], end, other_side(speaker))
