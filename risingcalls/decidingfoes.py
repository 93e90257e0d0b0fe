"""Deciding goals against foes: a system that wins, or a table that bars every system, and its judge."""

from risingcalls.deciding import decision
from risingcalls.foes import check_foe_leap, is_won_foes
from risingcalls.judging import fault_in_table
from risingcalls.stands import first_stand


def decide_foes(goals, leap):
    """Return Won with a system that wins against foes of the leap, or Lost with a table that bars all."""
    return decision(goals, True, check_foe_leap(goals.ladder, leap))


def least_leap(goals):
    """Return the least leap with which the goals are lost, None if they are won with every leap."""
    for leap in range(goals.ladder + 1):
        if not is_won_foes(goals, first_stand(goals), leap):
            return leap
    return None


def foe_table_fault(goals, stands, leap):
    """Return the label of the first fault of a table against foes of the leap, None if there is none."""
    return fault_in_table(goals, stands, check_foe_leap(goals.ladder, leap))
