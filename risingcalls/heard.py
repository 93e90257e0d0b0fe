"""What is heard: the kinds that can be behind a row, and the rows that can come."""

from risingcalls.basics import all_lots, is_whole, lots_with
from risingcalls.errors import BadLeap, HasGap
from risingcalls.rows import check_row, is_ended, rows_behind, speaker_at
from risingcalls.systems import word_said
from risingcalls.talks import Gap


def check_leap(ladder, leap):
    """Return the leap, or raise BadLeap."""
    if leap is not None and not is_whole(leap, 0, ladder):
        raise BadLeap()
    return leap


def lots_along(system, row):
    """Return the lots (east lot, west lot) behind all beginnings of the row, the empty one first."""
    words = check_row(row, system.ladder, system.foes)
    lots = all_lots(system.sides)
    found = [lots]
    for place, word in enumerate(words):
        ahead = words[:place]
        speaker = speaker_at(ahead, system.foes)
        if speaker is not None:
            part = [kind for kind in lots[speaker] if word_said(system, ahead, kind) == word]
            lots = lots_with(lots, speaker, tuple(part))
        found.append(lots)
    return tuple(found)


def lots_at(system, row):
    """Return (east lot, west lot), the kinds whose answers lead along the row."""
    return lots_along(system, row)[-1]


def parts_by_word(said):
    """Return (word, part) for each word of the pairs (kind, word), ascending."""
    words = sorted({word for _, word in said})
    return [(word, tuple([kind for kind, other in said if other == word])) for word in words]


def turns_behind(turn, said, ladder, foes, leap=None):
    """Return the turns (row, lots), ascending, that the words (kind, word) of the speaker lead to."""
    row, lots = turn
    turns = []
    for word, part in parts_by_word(said):
        cut = lots_with(lots, speaker_at(row, foes), part)
        turns.extend([(longer, cut) for longer in rows_behind(row, word, ladder, foes, leap)])
    return turns


def said_at(system, turn):
    """Return (kind, word) for the kinds that can speak at the turn; None where there is no answer."""
    row, lots = turn
    speaker = speaker_at(row, system.foes)
    if speaker is None:
        return []
    return [(kind, word_said(system, row, kind)) for kind in lots[speaker]]


def turns_of(system, leap=None):
    """Yield (row, lots) for the rows that can come, but for those at a foe's turn."""
    check_leap(system.ladder, leap)
    turns = [((), all_lots(system.sides))]
    while turns:
        yield from turns
        answered = [(turn, [pair for pair in said_at(system, turn) if pair[1] is not None]) for turn in turns]
        turns = [
            behind
            for turn, said in answered
            for behind in turns_behind(turn, said, system.ladder, system.foes, leap)
        ]


def rows_of(system, leap=None):
    """Yield the rows that can come, but for those at a foe's turn, by length, then ascending."""
    for row, _ in turns_of(system, leap):
        yield row


def gaps_of(system, leap=None):
    """Return a Gap for each row that can come and each kind that can be there without an answer."""
    gaps = []
    for turn in turns_of(system, leap):
        gaps.extend([Gap(turn[0], kind) for kind, word in said_at(system, turn) if word is None])
    return tuple(gaps)


def check_whole(system):
    """Return the system, or raise HasGap for its first gap."""
    gaps = gaps_of(system)
    if gaps:
        raise HasGap(gaps[0].row, gaps[0].kind)
    return system


def is_whole_system(system, leap=None):
    """Return whether the system has no gap that can come."""
    return not gaps_of(system, leap)


def ended_lots(system):
    """Yield (row, east lot, west lot) for each ended row that can come."""
    for row, (east_lot, west_lot) in turns_of(system):
        if is_ended(row, system.foes):
            yield (row, east_lot, west_lot)


def needed_answers(system):
    """Yield the answers at rows that can come, of kinds that can be there, in the order of answers."""
    for turn in turns_of(system):
        for kind, word in said_at(system, turn):
            if word is not None:
                yield (turn[0], kind, word)
