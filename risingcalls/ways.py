"""Ways: in how many ways the speaker's lot can be parted such that no part is lost by its word."""

from risingcalls.basics import EAST, STOP, WEST, lots_with, other_side
from risingcalls.masks import is_several, lot_of, mask_of, masked_after, masked_stand, masks_in
from risingcalls.partings import words_parted
from risingcalls.rows import next_words, words_within


def ends_behind(ladder, standing, word, leap):
    """Return the ends so far behind the word and each foe's word of the leap that does not end the talk."""
    ends = [-call for call in words_within(ladder, max(standing, word), leap)[1:]]
    return ends if word == STOP else [word] + ends


class Ways:
    """The ways at stands within lots, against foes of a leap; in plain talks foes have the leap 0.

    Stands have masks here. What a call is worth hangs on the call, not on the end so far; so the ways to
    share out the calls above one are counted once for all ends.
    """

    def __init__(self, goals, lots, leap=0):
        self.goals = goals
        self.reach = leap
        self.full = (mask_of(lots[EAST]), mask_of(lots[WEST]))
        self._counts = {}
        self._shares = {}
        self._wanting = {}

    def worth(self, stand):
        """Return 1 if the stand is won, 0 if it is lost."""
        return 1 if self.count_at(stand) > 0 else 0

    def count_at(self, stand):
        """Return the sum over all partings of the speaker's lot of what their parts are worth, multiplied."""
        if stand not in self._counts:
            end, speaker = stand[2:]
            lot, other = stand[speaker], stand[other_side(speaker)]
            shares = self.shares_above(other, abs(end), speaker)
            rests = [part for part in masks_in(lot) if lot ^ part in shares]
            counts = [shares[lot ^ part] * self.part_worth(part, other, end, speaker, STOP) for part in rests]
            self._counts[stand] = sum(counts)
        return self._counts[stand]

    def part_worth(self, part, other, end, speaker, word):
        """Return what the stands behind the word are worth for the part, multiplied; 1 for an empty part."""
        if part == 0:
            return 1
        if word == STOP and not self.may_stop(part, other, end, speaker):
            return 0
        worth = 1
        for behind in ends_behind(self.goals.ladder, abs(end), word, self.reach):
            worth = worth * self.worth(masked_after(part, other, behind, speaker))
        return worth

    def may_stop(self, part, other, end, speaker):
        """Return whether it is right that the talk ends for the part and the other lot."""
        if self.goals.knows[speaker] and is_several(other):
            return False
        if self.goals.knows[other_side(speaker)] and is_several(part):
            return False
        return part & self.wanting(other, end, speaker) == part

    def wanting(self, other, end, speaker):
        """Return the mask of the speaker's kinds for which the end is wanted with each kind of the other lot."""
        place = (other, end, speaker)
        if place not in self._wanting:
            kinds = []
            for kind in lot_of(self.full[speaker]):
                lots = lots_with((lot_of(other), lot_of(other)), speaker, (kind,))
                if all([end in self.goals.wanted[east][west] for east in lots[EAST] for west in lots[WEST]]):
                    kinds.append(kind)
            self._wanting[place] = mask_of(kinds)
        return self._wanting[place]

    def shares_above(self, other, standing, speaker):
        """Return a dict of the ways in which each mask can share out the calls above what stands."""
        place = (other, standing, speaker)
        if place not in self._shares:
            if standing == self.goals.ladder:
                self._shares[place] = {0: 1}
            else:
                self._shares[place] = self.shares_from(other, standing + 1, speaker)
        return self._shares[place]

    def shares_from(self, other, call, speaker):
        """Return a dict of the ways in which each mask can share out this call and those above it."""
        above = self.shares_above(other, call, speaker)
        found = {}
        for part in masks_in(self.full[speaker]):
            worth = self.part_worth(part, other, call - 1, speaker, call)
            for rest in [mask for mask in above if worth > 0 and mask & part == 0]:
                found[rest | part] = found.get(rest | part, 0) + above[rest] * worth
        return found

    def won_masks(self, stand, word):
        """Return a list of the masks within the speaker's lot, not empty, that are not lost by the word."""
        end, speaker = stand[2:]
        other = stand[other_side(speaker)]
        parts = [part for part in masks_in(stand[speaker]) if part > 0]
        return [part for part in parts if self.part_worth(part, other, end, speaker, word) > 0]

    def words_at(self, stand):
        """Return (kind, word) for the kinds of the speaker's lot in some parting that counts."""
        end, speaker = stand[2:]
        other = stand[other_side(speaker)]

        def choose(rest, word):
            shares = self.shares_above(other, max(abs(end), word), speaker)
            parts = [part for part in masks_in(rest) if rest ^ part in shares]
            return [part for part in parts if self.part_worth(part, other, end, speaker, word) > 0][0]

        return words_parted(stand[speaker], next_words(self.goals.ladder, abs(end)), choose)


def greatest_parts(ways, stand, word):
    """Return the parts won by the word that lie within no other such part, ascending."""
    won = ways.won_masks(masked_stand(stand), word)
    return tuple(sorted([lot_of(part) for part in won if [mask for mask in won if mask & part == part] == [part]]))
