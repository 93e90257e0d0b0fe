"""Rows of words, plain or with foes."""

from risingcalls.basics import STOP, is_sequence, is_whole
from risingcalls.errors import BadRow


def is_row(row, ladder, foes):
    """Return whether a value is a row of the ladder."""
    if not is_sequence(row):
        return False
    standing = 0
    for place, word in enumerate(row):
        if not may_be_said(word, ladder, standing) or is_ended(row[:place], foes):
            return False
        standing = max(standing, word)
    return True


def check_row(row, ladder, foes):
    """Return the row as a tuple, or raise BadRow."""
    if not is_row(row, ladder, foes):
        raise BadRow()
    return tuple(row)


def standing_at(row):
    """Return the call that stands, 0 if none does."""
    return max(row, default=0)


def end_at(row, foes):
    """Return the end so far: what stands, with a minus if a foe has called it."""
    standing = standing_at(row)
    if foes and standing > 0 and row.index(standing) % 2 == 1:
        return -standing
    return standing


def is_ended(row, foes):
    """Return whether the row is ended."""
    if not foes:
        return len(row) > 0 and row[-1] == STOP
    return len(row) > 0 and len(row) % 2 == 0 and row[-1] == STOP and row[-2] == STOP


def speaker_at(row, foes):
    """Return the side that speaks next, None if the row is ended or a foe speaks."""
    if is_ended(row, foes):
        return None
    if not foes:
        return len(row) % 2
    return None if len(row) % 2 == 1 else len(row) // 2 % 2


def words_of(row, foes, side):
    """Return the side's words in order."""
    return tuple(row[2 * side::4]) if foes else tuple(row[side::2])


def foe_words_of(row):
    """Return the foes' words of a row with foes."""
    return tuple(row[1::2])


def called_words(row):
    """Return the foes' words of a row with foes without the silent ones at their end."""
    words = foe_words_of(row)
    while words and words[-1] == STOP:
        words = words[:-1]
    return words


def foe_order(row):
    """Return what rows with foes of one couple are put in order by: fewer foes' words first, then ascending."""
    words = called_words(row)
    return (len(words), words)


def next_words(ladder, standing):
    """Return the words that may be said where this call stands, ascending."""
    return (STOP,) + tuple(range(standing + 1, ladder + 1))


def may_be_said(word, ladder, standing):
    """Return whether any value is a word that may be said where this call stands."""
    return is_whole(word, 0, ladder) and (word == STOP or word > standing)


def raised_word(word, by):
    """Return the word raised if it is a call; a stop and a silent foe's word stay."""
    return word + by if word > 0 else word


def words_within(ladder, standing, leap):
    """Return the words, ascending, of foes who call at most so much above what stands; None: any call."""
    return next_words(ladder if leap is None else min(ladder, standing + leap), standing)


def rows_behind(row, word, ladder, foes, leap=None):
    """Return the rows, ascending, that the speaker's word and then any foe's word lead to."""
    longer = row + (word,)
    if not foes:
        return (longer,)
    return tuple([longer + (foe_word,) for foe_word in words_within(ladder, standing_at(longer), leap)])


def rows_to(ladder, foes):
    """Return a list of all rows of the ladder, but for those at a foe's turn, by length, then by words."""
    found = [()]
    rows = [()]
    while rows:
        longer = [
            behind
            for row in rows
            for word in next_words(ladder, standing_at(row))
            for behind in rows_behind(row, word, ladder, foes)
        ]
        found.extend(longer)
        rows = [row for row in longer if not is_ended(row, foes)]
    return found


def all_foe_words(ladder):
    """Yield the words that foes may have for a talk, without silence at the end, by length."""
    yield ()
    rows = [()]
    for _ in range(ladder):
        rows = [row + (word,) for row in rows for word in next_words(ladder, standing_at(row))]
        yield from [row for row in rows if row[-1] != STOP]
