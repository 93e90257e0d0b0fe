"""Stands: what all who listen know when a partner is to speak."""

from risingcalls.basics import EAST, WEST, all_lots, is_lot, is_sequence, is_whole, lots_with, other_side
from risingcalls.errors import BadPart, BadStand, BadWord
from risingcalls.rows import end_at, may_be_said, speaker_at


def check_stand_from(world, stand, low):
    """Return the stand of a world's sides and ladder as a tuple, or raise BadStand; low is the least end."""
    if not is_sequence(stand) or len(stand) != 4:
        raise BadStand("stand")
    east_lot, west_lot, end, speaker = stand
    if not is_lot(east_lot, world.sides[EAST]):
        raise BadStand("east")
    if not is_lot(west_lot, world.sides[WEST]):
        raise BadStand("west")
    if not is_whole(end, low, world.ladder):
        raise BadStand("end")
    if not is_whole(speaker, EAST, WEST):
        raise BadStand("speaker")
    return (tuple(east_lot), tuple(west_lot), end, speaker)


def check_stand(goals, stand):
    """Return the stand as a tuple, its lots, too, or raise BadStand."""
    return check_stand_from(goals, stand, -goals.ladder)


def check_part(stand, part):
    """Return the part of a checked stand as a tuple, or raise BadPart."""
    lot = stand[stand[3]]
    if not is_lot(part, lot[-1] + 1) or not all([kind in lot for kind in part]):
        raise BadPart()
    return tuple(part)


def check_word(goals, stand, word):
    """Return the word, or raise BadWord if it may not be said at a checked stand."""
    if not may_be_said(word, goals.ladder, abs(stand[2])):
        raise BadWord(word)
    return word


def first_stand(goals):
    """Return the stand at which a talk begins."""
    east_lot, west_lot = all_lots(goals.sides)
    return (east_lot, west_lot, 0, EAST)


def stand_at(row, lots, foes):
    """Return the stand at a row at which a partner speaks, with these lots left."""
    return (lots[EAST], lots[WEST], end_at(row, foes), speaker_at(row, foes))


def stop_wins(goals, stand, part):
    """Return whether it is right that the talk ends at the stand for the part."""
    placed = check_stand(goals, stand)
    end, speaker = placed[2:]
    lots = lots_with(placed[:2], speaker, check_part(placed, part))
    # a side knows at the end if the other side's lot has one kind left
    if any([goals.knows[side] and len(lots[other_side(side)]) > 1 for side in (EAST, WEST)]):
        return False
    return all([end in goals.wanted[east][west] for east in lots[EAST] for west in lots[WEST]])


def stand_behind(stand, part, call):
    """Return the stand that follows if exactly the kinds of the part say the call."""
    east_lot, west_lot, _, speaker = stand
    lots = lots_with((tuple(east_lot), tuple(west_lot)), speaker, tuple(part))
    return (lots[EAST], lots[WEST], call, other_side(speaker))


def parts_of(lot):
    """Return a list of all parts of a lot."""
    parts = [()]
    for kind in lot:
        parts = parts + [part + (kind,) for part in parts]
    return parts[1:]


def stands_behind(ladder, stand):
    """Return the stands that any call and any part lead to from a stand without a foe's call."""
    parts = parts_of(stand[stand[3]])
    return [stand_behind(stand, part, call) for call in range(stand[2] + 1, ladder + 1) for part in parts]


def stands_from(goals):
    """Yield every stand that can be come to from the first stand, ascending."""
    found = {first_stand(goals): True}
    waiting = [first_stand(goals)]
    while waiting:
        stand = waiting.pop()
        for behind in stands_behind(goals.ladder, stand):
            if behind not in found:
                found[behind] = True
                waiting.append(behind)
    yield from sorted(list(found))
