"""Beating systems: the couple and the foes' book to which a table leads a system."""

from risingcalls.beaten import check_against
from risingcalls.foebooks import book_along
from risingcalls.foes import check_foe_leap
from risingcalls.judging import barring_table, fall_along


def beating_book(goals, stands, system, leap):
    """Return (couple, FoeBook) of a talk that goes wrong, to which the table leads the system."""
    check_foe_leap(goals.ladder, leap)
    check_against(goals, system)
    fall = fall_along(goals, barring_table(goals, stands, leap), system, leap)
    return (fall.couple, book_along(goals.ladder, fall.row))
