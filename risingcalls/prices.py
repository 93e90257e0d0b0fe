"""Prices: what the talks behind a stand cost at least, and systems that cost no more."""

from risingcalls.basics import EAST, STOP, WEST, all_lots, is_sequence, is_whole, other_side
from risingcalls.costs import check_weights
from risingcalls.errors import BadStand
from risingcalls.masks import lot_of, mask_of, masked_after, masked_stand, masks_in
from risingcalls.partings import cheapest_part, sharing, words_parted
from risingcalls.rows import next_words
from risingcalls.speaking import system_by_stands
from risingcalls.stands import check_stand_from, first_stand, stands_behind, stands_from


class Best:
    """The least total, a system that has it, and the prices of all stands, which bar a lesser one."""

    def __init__(self, total, system, table):
        self.total = total
        self.system = system
        self.table = table


class Prices:
    """The prices of stands, which have masks here.

    What a call costs hangs on the call, not on the end so far; so the cheapest ways to share out the calls
    above one are looked for once for all ends.
    """

    def __init__(self, costs, weights):
        self.costs = costs
        self.weights = weights
        self.full = tuple([mask_of(lot) for lot in all_lots(costs.sides)])
        self._prices = {}
        self._shares = {}

    def price_at(self, stand):
        """Return the price of the stand."""
        if stand not in self._prices:
            self._prices[stand] = self.least_sum(stand)
        return self._prices[stand]

    def least_sum(self, stand):
        """Return the least sum of the prices of the words, over all partings of the speaker's lot."""
        end, speaker = stand[2:]
        lot, other = stand[speaker], stand[other_side(speaker)]
        shares = self.shares_above(other, end, speaker)
        rests = [part for part in masks_in(lot) if lot ^ part in shares]
        return min([shares[lot ^ part] + self.word_price(part, other, end, speaker, STOP) for part in rests])

    def word_price(self, part, other, end, speaker, word):
        """Return what the word costs for the part; an empty part costs nothing."""
        if part == 0:
            return 0
        if word == STOP:
            return self.stop_price(masked_after(part, other, end, speaker))
        return self.price_at(masked_after(part, other, word, speaker))

    def stop_price(self, stand):
        """Return the sum over the couples of the stand's lots of weight times cost of the end so far."""
        total = 0
        for east in lot_of(stand[EAST]):
            for west in lot_of(stand[WEST]):
                total += self.weights.lines[east][west] * self.costs.lines[east][west][stand[2]]
        return total

    def prices_of_parts(self, mask, other, end, speaker, word):
        """Return a dict of what the word costs for each mask within a mask."""
        return {part: self.word_price(part, other, end, speaker, word) for part in masks_in(mask)}

    def shares_above(self, other, standing, speaker):
        """Return a dict of the least sums for the masks that share out the calls above what stands."""
        place = (other, standing, speaker)
        if place not in self._shares:
            self._shares[place] = {0: 0}
            if standing < self.costs.ladder:
                above = self.shares_above(other, standing + 1, speaker)
                prices = self.prices_of_parts(self.full[speaker], other, standing, speaker, standing + 1)
                self._shares[place] = sharing(above, prices)
        return self._shares[place]

    def words_at(self, stand):
        """Return (kind, word) for the kinds of the speaker's lot in some parting of the stand's price."""
        end, speaker = stand[2:]
        other = stand[other_side(speaker)]

        def choose(rest, word):
            prices = self.prices_of_parts(rest, other, end, speaker, word)
            return cheapest_part(rest, prices, self.shares_above(other, max(end, word), speaker))

        return words_parted(stand[speaker], next_words(self.costs.ladder, end), choose)


class TablePrices(Prices):
    """Prices in which a stand has its number in a table, a dict of stands with masks."""

    def __init__(self, costs, weights, table):
        Prices.__init__(self, costs, weights)
        self.table = table

    def price_at(self, stand):
        """Return the stand's number in the table."""
        return self.table[stand]

    def prices_of_parts(self, mask, other, end, speaker, word):
        """Return a dict of what the call costs for each mask within a mask whose stand behind is in the table."""
        parts = [part for part in masks_in(mask) if part == 0 or masked_after(part, other, word, speaker) in self.table]
        return {part: self.word_price(part, other, end, speaker, word) for part in parts}


def price_of(costs, weights, stand):
    """Return the price of a stand of these sides and this ladder."""
    check_weights(costs, weights)
    return Prices(costs, weights).price_at(masked_stand(check_stand_from(costs, stand, 0)))


def best_system(costs, weights):
    """Return the Best that any plain system can do."""
    check_weights(costs, weights)
    prices = Prices(costs, weights)
    system = system_by_stands(costs, prices)
    table = [(stand, prices.price_at(masked_stand(stand))) for stand in stands_from(costs)]
    return Best(prices.price_at(masked_stand(first_stand(costs))), system, tuple(table))


def priced_stands(costs, table):
    """Return a dict of the numbers of a table's stands, None if it is no table of stands, each once."""
    if not is_sequence(table) or not all([is_sequence(pair) and len(pair) == 2 for pair in table]):
        return None
    if not all([is_whole(pair[1]) for pair in table]):
        return None
    try:
        placed = {check_stand_from(costs, pair[0], 0): pair[1] for pair in table}
    except BadStand:
        return None
    return placed if len(placed) == len(table) else None


def price_fault(costs, weights, table):
    """Return the label of the first fault of a table of pairs (stand, price), None if there is none."""
    check_weights(costs, weights)
    placed = priced_stands(costs, table)
    if placed is None:
        return "table"
    if first_stand(costs) not in placed:
        return "first"
    if not all([behind in placed for stand in placed for behind in stands_behind(costs.ladder, stand)]):
        return "missing"
    masked = {masked_stand(stand): placed[stand] for stand in placed}
    prices = TablePrices(costs, weights, masked)
    return None if all([prices.least_sum(stand) == masked[stand] for stand in masked]) else "price"


def best_parts(costs, weights):
    """Return all pairs (word, part) such that just the part says the word first in some best system."""
    check_weights(costs, weights)
    prices = Prices(costs, weights)
    first = masked_stand(first_stand(costs))
    words = next_words(costs.ladder, 0)
    by_word = [prices.prices_of_parts(first[EAST], first[WEST], 0, EAST, word) for word in words]
    found = []
    for word in words:
        shares = {0: 0}
        for other in [other for other in words if other != word]:
            shares = sharing(shares, by_word[other])
        for part in [part for part in by_word[word] if part > 0 and first[EAST] ^ part in shares]:
            if by_word[word][part] + shares[first[EAST] ^ part] == prices.price_at(first):
                found.append((word, lot_of(part)))
    return tuple(sorted(found))
