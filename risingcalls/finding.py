"""Finding habits that win goals, or the tables that bar all habits."""

from risingcalls.basics import EAST, STOP, WEST, all_lots, is_sequence, is_whole, other_side
from risingcalls.deciding import lost_stands
from risingcalls.goals import check_width
from risingcalls.habits import Habit, habit_of, system_of_habit, tidied
from risingcalls.judging import system_fault, table_of
from risingcalls.masks import lot_of, mask_of, masked_stand
from risingcalls.picks import choices_from
from risingcalls.rows import next_words
from risingcalls.speaking import system_by_stands
from risingcalls.stands import first_stand
from risingcalls.ways import Ways

# up to this ladder no two rows share speaker and standing call, but for those at which only a stop may be said
FREE_LADDER = 3
WIDE_LADDER = 4
CHOSEN_STANDING = 3
KINDS_TOGETHER = 6
LISTED_TOGETHER = 3
LISTED_EACH = 2


class NoHabit:
    """No habit wins: for each choice a closed table of stands."""

    def __init__(self, tables):
        self.tables = tables

    def __eq__(self, other):
        return isinstance(other, NoHabit) and self.tables == other.tables


class ChoiceWays(Ways):
    """Ways of partings that keep to a choice: where 3 stands and the ladder is 4, each kind says its word."""

    def __init__(self, goals, choice):
        Ways.__init__(self, goals, all_lots(goals.sides))
        self.choice = choice

    def is_chosen(self, stand):
        """Return whether the choice tells the words at the stand."""
        return self.goals.ladder == WIDE_LADDER and abs(stand[2]) == CHOSEN_STANDING

    def chosen_at(self, stand):
        """Return (kind, word of the choice) for the kinds of the speaker's lot."""
        return [(kind, self.choice[stand[3]][kind]) for kind in lot_of(stand[stand[3]])]

    def count_at(self, stand):
        """Return the sum over the partings that keep to the choice of what their parts are worth, multiplied."""
        if not self.is_chosen(stand):
            return super().count_at(stand)
        end, speaker = stand[2:]
        count = 1
        for word in (STOP, WIDE_LADDER):
            part = mask_of([kind for kind, said in self.chosen_at(stand) if said == word])
            count = count * self.part_worth(part, stand[other_side(speaker)], end, speaker, word)
        return count

    def words_at(self, stand):
        """Return (kind, word) for the kinds of the speaker's lot in some parting that counts."""
        return self.chosen_at(stand) if self.is_chosen(stand) else super().words_at(stand)


class ChoiceTableWays(ChoiceWays):
    """Ways that keep to a choice and in which a stand is lost exactly if it is in a table, a dict."""

    def __init__(self, goals, choice, table):
        ChoiceWays.__init__(self, goals, choice)
        self.table = table

    def worth(self, stand):
        """Return 0 if the stand is in the table, 1 otherwise."""
        return 0 if stand in self.table else 1


def choices_of(goals):
    """Yield all choices (east words, west words), ascending."""
    check_width(goals, WIDE_LADDER, KINDS_TOGETHER)
    if goals.ladder < WIDE_LADDER:
        yield ((), ())
        return
    for east_words in choices_from([(STOP, WIDE_LADDER)] * goals.sides[EAST]):
        for west_words in choices_from([(STOP, WIDE_LADDER)] * goals.sides[WEST]):
            yield (east_words, west_words)


def find_habit(goals):
    """Return a tidied habit that wins the goals, or NoHabit with tables that bar all."""
    tables = []
    for choice in choices_of(goals):
        ways = ChoiceWays(goals, choice)
        if ways.worth(masked_stand(first_stand(goals))) > 0:
            return habit_of(system_by_stands(goals, ways))
        tables.append((choice, lost_stands(ways)))
    return NoHabit(tuple(tables))


def is_choice(thing, choice):
    """Return whether a value is just this choice; True is no word, and a list no tuple."""
    return thing == choice and all([is_whole(word) for words in thing for word in words])


def are_choice_pairs(goals, tables):
    """Return whether a value has a pair for each choice, in order."""
    choices = list(choices_of(goals))
    if not is_sequence(tables) or len(tables) != len(choices):
        return False
    if not all([is_sequence(pair) and len(pair) == 2 for pair in tables]):
        return False
    return all([is_choice(pair[0], choice) for pair, choice in zip(tables, choices)])


def choice_fault(goals, choice, stands):
    """Return the label of the first fault of a table for the choice, None if there is none."""
    placed = table_of(goals, stands)
    if placed is None:
        return "stands"
    table = {masked_stand(stand): True for stand in placed}
    if len(table) != len(placed):
        return "stands"
    if first_stand(goals) not in placed:
        return "first"
    ways = ChoiceTableWays(goals, choice, table)
    return "leak" if any([ways.count_at(stand) > 0 for stand in table]) else None


def no_habit_fault(goals, tables):
    """Return the label of the first fault of tables that are said to bar all habits, None if there is none."""
    if not are_choice_pairs(goals, tables):
        return "choices"
    for choice, stands in tables:
        fault = choice_fault(goals, choice, stands)
        if fault is not None:
            return fault
    return None


def habits_for(goals):
    """Yield all tidied habits that win the goals, ascending by their words."""
    check_width(goals, FREE_LADDER, LISTED_TOGETHER, LISTED_EACH)
    lines = choices_from([next_words(goals.ladder, standing) for standing in range(goals.ladder + 1)])
    for east_words in choices_from([lines] * goals.sides[EAST]):
        for west_words in choices_from([lines] * goals.sides[WEST]):
            habit = Habit(goals.sides, goals.ladder, east_words, west_words)
            if tidied(habit) == habit and system_fault(goals, system_of_habit(habit)) is None:
                yield habit
