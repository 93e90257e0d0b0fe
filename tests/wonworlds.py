"""Goals for the tests, and what is won of them, told apart from the program: all partings, one by one."""

import itertools
import random

from risingcalls.goals import Goals
from worlds import lots_by_words, lots_of, told_end, told_ended, told_rows, told_speaker, told_words

TRUTHS = list(itertools.product((False, True), repeat=2))


def drawn_goals(rng, sides, ladder, share=0.5, knows=None):
    """Goals in which each end is wanted with the chance `share`."""
    def ends():
        found = [end for end in range(-ladder, ladder + 1) if rng.random() < share]
        return found or [rng.randint(-ladder, ladder)]

    wanted = [[ends() for _ in range(sides[1])] for _ in range(sides[0])]
    return Goals(ladder, wanted, rng.choice(TRUTHS) if knows is None else knows)


def many_drawn(seed, worlds, many=1, shares=(0.4, 0.6, 0.8, 0.95)):
    """Goals for each (sides, ladder): each share, and each of knows."""
    rng = random.Random(seed)
    for sides, ladder in worlds:
        for share in shares:
            for knows in TRUTHS:
                for _ in range(many):
                    yield drawn_goals(rng, sides, ladder, share, knows)


def all_of(sides):
    return (tuple(range(sides[0])), tuple(range(sides[1])))


def told_stands(goals, low=None):
    """All stands with ends from low (-ladder if it is None) to the ladder, whether a talk comes to them or not."""
    low = -goals.ladder if low is None else low
    return [(east, west, end, speaker) for east in lots_of(goals.sides[0]) for west in lots_of(goals.sides[1])
            for end in range(low, goals.ladder + 1) for speaker in (0, 1)]


def parts_in_lot(lot):
    return [part for size in range(1, len(lot) + 1) for part in itertools.combinations(lot, size)]


def cut(stand, part):
    """The two lots behind a part."""
    return (part, stand[1]) if stand[3] == 0 else (stand[0], part)


def told_stop_wins(goals, stand, part):
    east_lot, west_lot = cut(stand, part)
    for east in east_lot:
        for west in west_lot:
            if stand[2] not in goals.wanted[east][west]:
                return False
    if goals.knows[0] and len(west_lot) > 1:
        return False
    return not (goals.knows[1] and len(east_lot) > 1)


def stands_behind_word(goals, stand, part, word, leap):
    """The stands behind a part's word and each foe's word of the leap that does not end the talk."""
    standing = max(abs(stand[2]), word)
    found = []
    for reply in [0, *range(standing + 1, min(goals.ladder, standing + leap) + 1)]:
        if reply:
            found.append((*cut(stand, part), -reply, 1 - stand[3]))
        elif word:
            found.append((*cut(stand, part), word, 1 - stand[3]))
    return found


def told_part_lost(goals, stand, part, word, leap, is_lost):
    """Whether a part is lost by a word, if is_lost tells of each stand whether it is."""
    if word == 0 and not told_stop_wins(goals, stand, part):
        return True
    return any(is_lost(behind) for behind in stands_behind_word(goals, stand, part, word, leap))


def words_at(goals, stand):
    return [0, *range(abs(stand[2]) + 1, goals.ladder + 1)]


def told_partings(goals, stand):
    """All partings, ascending: a word for each kind of the speaker's lot."""
    return itertools.product(words_at(goals, stand), repeat=len(stand[stand[3]]))


def parts_of_parting(stand, parting):
    """(word, part) for each word of a parting."""
    lot = stand[stand[3]]
    return [(word, tuple(kind for kind, said in zip(lot, parting) if said == word)) for word in sorted(set(parting))]


def has_parting(goals, stand, leap, is_lost):
    """Whether some parting has no lost part."""
    lost = {(word, part): told_part_lost(goals, stand, part, word, leap, is_lost)
            for word in words_at(goals, stand) for part in parts_in_lot(stand[stand[3]])}
    return any(not any(lost[pair] for pair in parts_of_parting(stand, parting))
               for parting in told_partings(goals, stand))


def told_won(goals, leap=0):
    """{stand: whether it is won} for all stands, from the top of the ladder downward."""
    won = {}
    for stand in sorted(told_stands(goals), key=lambda stand: -abs(stand[2])):
        won[stand] = has_parting(goals, stand, leap, lambda behind: not won[behind])
    return won


def told_first(goals):
    return (*all_of(goals.sides), 0, 0)


def told_table_fault(goals, stands, leap=0):
    """The fault of a table of stands, all of them stands of the goals."""
    if told_first(goals) not in stands:
        return "first"
    for stand in stands:
        if has_parting(goals, stand, leap, lambda behind: behind in stands):
            return "leak"
    return None


def closed_table(won, goals, leap=0):
    """The first stand and all lost stands behind lost stands, ascending."""
    found = {told_first(goals)}
    waiting = [told_first(goals)]
    while waiting:
        stand = waiting.pop()
        for part in parts_in_lot(stand[stand[3]]):
            for word in words_at(goals, stand):
                for behind in stands_behind_word(goals, stand, part, word, leap):
                    if not won[behind] and behind not in found:
                        found.add(behind)
                        waiting.append(behind)
    return tuple(sorted(found))


# Systems as dicts {(row, kind): word}: played by all couples, against all foes' words of a leap.


def rows_with_foes(words, couple, ladder, foes, leap):
    """All ("talk" or "gap", row) of a couple, against all foes' words of the leap, in the foes' words' order."""
    found = []
    rows = [()]
    while rows:
        row = rows.pop()
        if told_ended(row, foes):
            found.append(("talk", row))
            continue
        kind = couple[told_speaker(row, foes)]
        if (row, kind) not in words:
            found.append(("gap", row))
            continue
        longer = row + (words[row, kind],)
        if not foes:
            rows.append(longer)
            continue
        standing = max(longer)
        rows += [longer + (word,) for word in [0, *range(standing + 1, min(ladder, standing + leap) + 1)]]
    return sorted(found, key=lambda pair: (len(trimmed(pair[1][1::2])), trimmed(pair[1][1::2])) if foes else ())


def trimmed(foe_words):
    while foe_words and foe_words[-1] == 0:
        foe_words = foe_words[:-1]
    return foe_words


def wrong_in(goals, words, couple, foes, leap):
    """The (foe words, label, row, what) of each talk of the couple that goes wrong, in the foes' words' order."""
    found = []
    for result, row in rows_with_foes(words, couple, goals.ladder, foes, leap):
        called = trimmed(row[1::2]) if foes else ()
        lots = lots_by_words(words, goals.sides, row, foes)
        if result == "gap":
            found.append((called, "gap", row, couple[told_speaker(row, foes)]))
        elif told_end(row, foes) not in goals.wanted[couple[0]][couple[1]]:
            found.append((called, "end", row, None))
        elif goals.knows[0] and len(lots[1]) > 1:
            found.append((called, "knows", row, 0))
        elif goals.knows[1] and len(lots[0]) > 1:
            found.append((called, "knows", row, 1))
    return found


def wins_told(goals, words, foes=False, leap=0):
    couples = itertools.product(range(goals.sides[0]), range(goals.sides[1]))
    return not any(wrong_in(goals, words, couple, foes, leap) for couple in couples)


def coming_rows(words, sides, ladder, foes=False, leap=0):
    """{row: lots} for the rows at a partner's turn that can come against foes of the leap."""
    found = {}
    for row in told_rows(ladder, foes):
        if told_speaker(row, foes) is None:
            continue
        if foes and any(row[at] > max(row[:at]) + leap for at in range(1, len(row), 2)):
            continue
        lots = lots_by_words(words, sides, row, foes)
        if lots[0] and lots[1]:
            found[row] = lots
    return found


def has_just_needed(words, sides, ladder, foes=False, leap=0):
    """Whether the answers are at exactly the rows that can come and the kinds of the speaker's lot there."""
    coming = coming_rows(words, sides, ladder, foes, leap)
    return set(words) == {(row, kind) for row, lots in coming.items() for kind in lots[told_speaker(row, foes)]}


def needed_systems(sides, ladder, foes=False, leap=0):
    """All systems with answers at exactly the rows that can come and the kinds of the speaker's lot there."""
    def grown(words, waiting):
        if not waiting:
            yield words
            return
        (row, lots), rest = waiting[0], waiting[1:]
        side = told_speaker(row, foes)
        for said in itertools.product(told_words(row, ladder), repeat=len(lots[side])):
            more = []
            for word in sorted(set(said)):
                part = tuple(kind for kind, other in zip(lots[side], said) if other == word)
                after = (part, lots[1]) if side == 0 else (lots[0], part)
                longer = row + (word,)
                replies = [()] if not foes else [
                    (reply,) for reply in [0, *range(max(longer) + 1, min(ladder, max(longer) + leap) + 1)]]
                more += [(longer + reply, after) for reply in replies if not told_ended(longer + reply, foes)]
            answers = {(row, kind): word for kind, word in zip(lots[side], said)}
            yield from grown({**words, **answers}, rest + more)

    yield from grown({}, [((), all_of(sides))])


def every_system(sides, ladder):
    """All plain systems with an answer at every row and kind."""
    places = [(row, kind) for row in told_rows(ladder, False) if told_speaker(row, False) is not None
              for kind in range(sides[told_speaker(row, False)])]
    for said in itertools.product(*[told_words(row, ladder) for row, _ in places]):
        yield dict(zip(places, said))


def words_in(system):
    return {(row, kind): word for row, kind, word in system.answers}
