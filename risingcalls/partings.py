"""Partings of masks: how the kinds of a mask are shared out among words, and what that costs at least."""

from risingcalls.masks import lot_of, masks_in


def words_parted(mask, words, choose):
    """Return (kind, word) for the kinds of a mask; choose(rest, word) tells which of the rest say the word."""
    rest = mask
    said = []
    for word in words:
        part = choose(rest, word)
        said.extend([(kind, word) for kind in lot_of(part)])
        rest = rest ^ part
    return said


def sharing(shares, prices):
    """Return the least sums, by mask, if parts may also say one word more; both dicts have the price of a mask.

    In shares a mask is shared out among the words so far; a mask that is not in a dict cannot be.
    """
    found = {}
    for part in prices:
        for rest in [mask for mask in shares if mask & part == 0]:
            price = shares[rest] + prices[part]
            if rest | part not in found or price < found[rest | part]:
                found[rest | part] = price
    return found


def cheapest_part(mask, prices, shares):
    """Return the part of a mask that makes the least sum with what is left, which shares share out."""
    parts = [part for part in masks_in(mask) if part in prices and mask ^ part in shares]
    return min(parts, key=lambda part: prices[part] + shares[mask ^ part])
