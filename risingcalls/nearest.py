"""Nearest systems: the fewest changed answers behind which a plain system wins."""

from risingcalls.basics import EAST, STOP, WEST, all_lots, check_lot, check_side, lots_with, other_side
from risingcalls.errors import BadRow, NotAlike
from risingcalls.goals import check_width
from risingcalls.masks import lot_of, mask_of, masks_in
from risingcalls.partings import cheapest_part, sharing, words_parted
from risingcalls.rows import is_row, next_words, speaker_at, standing_at
from risingcalls.systems import unlike_in, word_said
from risingcalls.ways import Ways

WIDE_LADDER = 4
KINDS_TOGETHER = 4
KINDS_EACH = 4


class Fewest:
    """The least number of changes behind which a system wins, and such changes."""

    def __init__(self, number, changes):
        self.number = number
        self.changes = changes

    def __eq__(self, other):
        return isinstance(other, Fewest) and self.number == other.number and self.changes == other.changes


class ChangePrices:
    """The least numbers of changes at rows, with lots as masks, and on from there; only one side's if it is told."""

    def __init__(self, goals, system, only):
        self.system = system
        self.only = only
        self.ways = Ways(goals, all_lots(goals.sides))
        self._prices = {}

    def least_at(self, row, lots):
        """Return the least number of changes with which these lots win from the row on, None if they cannot."""
        place = (row, lots[EAST], lots[WEST])
        if place not in self._prices:
            prices, shares = self.sharings_at(row, lots)[STOP]
            self._prices[place] = sharing(shares, prices).get(lots[speaker_at(row, False)])
        return self._prices[place]

    def sharings_at(self, row, lots):
        """Return by word a pair of dicts by mask: its prices, and the least sums of the words greater than it."""
        found = {}
        shares = {0: 0}
        for word in next_words(self.system.ladder, standing_at(row))[::-1]:
            prices = self.part_prices(row, lots, word)
            found[word] = (prices, shares)
            shares = sharing(shares, prices)
        return found

    def part_prices(self, row, lots, word):
        """Return a dict of the least number of changes for each mask of the speaker's that can win by the word."""
        found = {0: 0}
        for part in [mask for mask in masks_in(lots[speaker_at(row, False)]) if mask > 0]:
            changes, later = self.changes_at(row, part, word), self.price_behind(row, lots, part, word)
            if changes is not None and later is not None:
                found[part] = changes + later
        return found

    def changes_at(self, row, part, word):
        """Return how many kinds of the part have another answer than the word, None if one must keep its own."""
        changes = len([kind for kind in lot_of(part) if word_said(self.system, row, kind) != word])
        if changes > 0 and self.only == other_side(speaker_at(row, False)):
            return None
        return changes

    def price_behind(self, row, lots, part, word):
        """Return the least number of changes behind the word of the part, None if it cannot win."""
        speaker = speaker_at(row, False)
        if word == STOP:
            may_stop = self.ways.may_stop(part, lots[other_side(speaker)], standing_at(row), speaker)
            return 0 if may_stop else None
        return self.least_at(row + (word,), lots_with(lots, speaker, part))

    def words_for(self, row, lots):
        """Return (kind, word) for the kinds of the speaker's lot with which the changes are fewest."""
        sharings = self.sharings_at(row, lots)

        def choose(rest, word):
            prices, shares = sharings[word]
            return cheapest_part(rest, prices, shares)

        words = next_words(self.system.ladder, standing_at(row))
        return words_parted(lots[speaker_at(row, False)], words, choose)


def check_only(only):
    """Return the only side whose answers may be changed, None for both, or raise BadSide."""
    return None if only is None else check_side(only)


def check_nearby(goals, system):
    """Raise NotAlike or TooWide if the changes of the system for the goals are not looked for."""
    what = unlike_in(goals, system, False)
    if what is not None:
        raise NotAlike(what)
    check_width(goals, WIDE_LADDER, KINDS_TOGETHER, KINDS_EACH)


def full_masks(goals):
    """Return the masks of all kinds of both sides."""
    return tuple([mask_of(lot) for lot in all_lots(goals.sides)])


def changes_in(prices, goals):
    """Return a list of the fewest changes behind which the goals are won, where they can be."""
    changes = []
    turns = [((), full_masks(goals))]
    while turns:
        row, lots = turns.pop()
        said = prices.words_for(row, lots)
        changes.extend([
            ("answer", row, kind, word) for kind, word in said if word_said(prices.system, row, kind) != word
        ])
        for call in sorted({word for _, word in said if word != STOP}):
            part = mask_of([kind for kind, word in said if word == call])
            turns.append((row + (call,), lots_with(lots, speaker_at(row, False), part)))
    return changes


def fewest_changes(goals, system, *, only=None):
    """Return the Fewest changes behind which the system wins the goals, None if none lead there."""
    side = check_only(only)
    check_nearby(goals, system)
    prices = ChangePrices(goals, system, side)
    number = prices.least_at((), full_masks(goals))
    return None if number is None else Fewest(number, tuple(changes_in(prices, goals)))


def change_price(goals, system, row, east_lot, west_lot, *, only=None):
    """Return the least number of changes with which these kinds win from the row on, None if none do."""
    side = check_only(only)
    east = check_lot(east_lot, goals.sides[EAST], EAST)
    west = check_lot(west_lot, goals.sides[WEST], WEST)
    if not is_row(row, goals.ladder, False) or speaker_at(row, False) is None:
        raise BadRow()
    check_nearby(goals, system)
    return ChangePrices(goals, system, side).least_at(tuple(row), (mask_of(east), mask_of(west)))
