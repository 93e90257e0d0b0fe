"""What is won against foes: their leaps, their words, stands and parts."""

from risingcalls.basics import is_whole
from risingcalls.errors import BadLeap
from risingcalls.masks import masked_stand
from risingcalls.rows import words_within
from risingcalls.stands import check_stand, check_word
from risingcalls.ways import Ways, greatest_parts


def check_foe_leap(ladder, leap):
    """Return the leap of foes, or raise BadLeap; None is no such leap."""
    if not is_whole(leap, 0, ladder):
        raise BadLeap()
    return leap


def foe_replies(ladder, standing, leap):
    """Return the words that foes of the leap may say where this call stands, ascending."""
    return words_within(ladder, standing, leap)


def is_won_foes(goals, stand, leap):
    """Return whether the stand is won against foes of the leap."""
    placed = check_stand(goals, stand)
    check_foe_leap(goals.ladder, leap)
    return Ways(goals, placed[:2], leap).worth(masked_stand(placed)) > 0


def won_parts_foes(goals, stand, word, leap):
    """Return the greatest parts for which the word is won against foes of the leap, ascending."""
    placed = check_stand(goals, stand)
    check_foe_leap(goals.ladder, leap)
    check_word(goals, placed, word)
    return greatest_parts(Ways(goals, placed[:2], leap), placed, word)
