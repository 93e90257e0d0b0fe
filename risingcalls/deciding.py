"""Deciding goals in plain talks: a system that wins, or a table that bars every system."""

from risingcalls.basics import all_lots, other_side
from risingcalls.masks import masked_after, masked_stand, masks_in, stand_of
from risingcalls.rows import next_words
from risingcalls.speaking import system_by_stands
from risingcalls.stands import first_stand
from risingcalls.ways import Ways, ends_behind


class Won:
    """Goals are won, and this system wins them."""

    def __init__(self, system):
        self.system = system


class Lost:
    """Goals are lost, and this table of stands bars every system."""

    def __init__(self, stands):
        self.stands = stands


class SystemWays(Ways):
    """Ways in which each stand is worth as many systems as win from there on."""

    def worth(self, stand):
        """Return the number of systems that win from the stand on."""
        return self.count_at(stand)


def masked_behind(ladder, stand, leap):
    """Return a list of the stands, with masks, behind any part, any word and any foe's word of the leap."""
    end, speaker = stand[2:]
    words = next_words(ladder, abs(end))
    ends = sorted({behind for word in words for behind in ends_behind(ladder, abs(end), word, leap)})
    other = stand[other_side(speaker)]
    found = []
    for part in [mask for mask in masks_in(stand[speaker]) if mask > 0]:
        found.extend([masked_after(part, other, behind, speaker) for behind in ends])
    return found


def lost_stands(ways):
    """Return the first stand and all lost stands that are come to by lost stands alone, ascending."""
    first = masked_stand(first_stand(ways.goals))
    found = {first: True}
    waiting = [first]
    while waiting:
        stand = waiting.pop()
        for behind in masked_behind(ways.goals.ladder, stand, ways.reach):
            if behind not in found and ways.worth(behind) == 0:
                found[behind] = True
                waiting.append(behind)
    return tuple(sorted([stand_of(stand) for stand in found]))


def decision(goals, foes, leap):
    """Return Won or Lost of the goals in plain talks or against foes of the leap."""
    ways = Ways(goals, all_lots(goals.sides), leap)
    if ways.worth(masked_stand(first_stand(goals))) == 0:
        return Lost(lost_stands(ways))
    return Won(system_by_stands(goals, ways, foes, leap))


def decide_goals(goals):
    """Return Won with a plain system that wins the goals, or Lost with a table that bars all."""
    return decision(goals, False, 0)


def count_systems(goals):
    """Return the number of the plain systems without needless answers that win the goals."""
    return SystemWays(goals, all_lots(goals.sides)).count_at(masked_stand(first_stand(goals)))
