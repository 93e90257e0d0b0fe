"""Totals: what a plain system costs, and where it costs more than it must."""

from math import gcd

from risingcalls.basics import couples_of, other_side
from risingcalls.costs import check_weights
from risingcalls.errors import NotAlike
from risingcalls.heard import check_whole, parts_by_word, said_at, turns_of
from risingcalls.masks import mask_of, masked_stand
from risingcalls.prices import Prices
from risingcalls.rows import is_ended
from risingcalls.stands import first_stand, stand_at
from risingcalls.systems import check_plain, unlike_in
from risingcalls.talks import play_talk


def check_priced(costs, system):
    """Return the system, or raise the error that tells why its talks cannot be paid with these costs."""
    check_plain(system)
    what = unlike_in(costs, system, False)
    if what is not None:
        raise NotAlike(what)
    return check_whole(system)


def cost_paid(costs, system, couple):
    """Return the cost of the end of the couple's talk."""
    return costs.lines[couple[0]][couple[1]][play_talk(system, couple).end]


def shares_paid(costs, weights, system):
    """Return a list, by the couples in their order, of weight times the cost that each pays."""
    check_weights(costs, weights)
    check_priced(costs, system)
    couples = couples_of(costs.sides)
    return [weights.lines[couple[0]][couple[1]] * cost_paid(costs, system, couple) for couple in couples]


def total_of(costs, weights, system):
    """Return the sum over all couples of weight times the cost of the end of their talk."""
    return sum(shares_paid(costs, weights, system))


def fraction(top, bottom):
    """Return (top, bottom) in lowest terms; the bottom is above 0."""
    common = gcd(top, bottom)
    return (top // common, bottom // common)


def mean_of(costs, weights, system):
    """Return the total over the sum of the weights as a fraction, None if all weights are 0."""
    total = total_of(costs, weights, system)
    return fraction(total, weights.weight_sum) if weights.weight_sum > 0 else None


def dearest_couple(costs, weights, system):
    """Return the first couple with the greatest weight times cost."""
    paid = shares_paid(costs, weights, system)
    return couples_of(costs.sides)[paid.index(max(paid))]


def worst_of(costs, system):
    """Return the greatest cost that any couple pays."""
    check_priced(costs, system)
    return max([cost_paid(costs, system, couple) for couple in couples_of(costs.sides)])


def excess_at(prices, system, turn):
    """Return what the words at a turn (row, lots) cost more than the least."""
    row, lots = turn
    end, speaker = stand_at(row, lots, False)[2:]
    other = mask_of(lots[other_side(speaker)])
    parts = parts_by_word(said_at(system, turn))
    paid = sum([prices.word_price(mask_of(part), other, end, speaker, word) for word, part in parts])
    return paid - prices.price_at(masked_stand(stand_at(row, lots, False)))


def excesses_of(costs, weights, system):
    """Return (row, excess) for each row that can come and is not ended, in the rows' order."""
    check_weights(costs, weights)
    check_priced(costs, system)
    prices = Prices(costs, weights)
    turns = [turn for turn in turns_of(system) if not is_ended(turn[0], False)]
    return tuple([(turn[0], excess_at(prices, system, turn)) for turn in turns])


def is_best(costs, weights, system):
    """Return whether no plain system without a gap has a lesser total."""
    total = total_of(costs, weights, system)
    return total == Prices(costs, weights).price_at(masked_stand(first_stand(costs)))
