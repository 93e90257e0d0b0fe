"""Judges of tables of stands and of plain systems, and the talk to which a table leads a system."""

from risingcalls.basics import EAST, WEST, all_lots, couples_in, couples_of, is_sequence, lots_with, other_side
from risingcalls.errors import BadStand, NotAlike, NotLost
from risingcalls.heard import lots_at, said_at, turns_behind
from risingcalls.masks import masked_stand
from risingcalls.rows import end_at, is_ended
from risingcalls.stands import check_stand, first_stand, stand_at, stop_wins
from risingcalls.systems import unlike_in
from risingcalls.talks import Gap, play_talk
from risingcalls.ways import Ways


class TableWays(Ways):
    """Ways in which a stand is lost exactly if it is in a table, a dict of stands with masks."""

    def __init__(self, goals, leap, table):
        Ways.__init__(self, goals, all_lots(goals.sides), leap)
        self.table = table

    def worth(self, stand):
        """Return 0 if the stand is in the table, 1 otherwise."""
        return 0 if stand in self.table else 1


def table_of(goals, stands):
    """Return a list of the stands of a table as tuples, None if there is something else in it."""
    if not is_sequence(stands):
        return None
    try:
        return [check_stand(goals, stand) for stand in stands]
    except BadStand:
        return None


def fault_in_table(goals, stands, leap):
    """Return the label of the table's first fault against foes of the leap, None if there is none."""
    placed = table_of(goals, stands)
    if placed is None:
        return "stand"
    if first_stand(goals) not in placed:
        return "first"
    table = {masked_stand(stand): True for stand in placed}
    ways = TableWays(goals, leap, table)
    leaks = [stand for stand in table if ways.count_at(stand) > 0]
    return "leak" if leaks else None


def table_fault(goals, stands):
    """Return the label of the first fault of a table of stands claimed to be lost, None if there is none."""
    return fault_in_table(goals, stands, 0)


def knows_fault(knows, lots, couple):
    """Return ("knows", couple, side) for the first side that must know and does not; None if none."""
    for side in (EAST, WEST):
        if knows[side] and len(lots[other_side(side)]) > 1:
            return ("knows", couple, side)
    return None


def couple_fault(goals, system, couple):
    """Return what is wrong with the couple's talk, None if nothing is."""
    result = play_talk(system, couple)
    if isinstance(result, Gap):
        return ("gap", result.row, result.kind)
    if result.end not in goals.ends_for(couple):
        return ("end", couple)
    return knows_fault(goals.knows, lots_at(system, result.row), couple)


def system_fault(goals, system):
    """Return None if the plain system wins the goals, otherwise a tuple of the first thing that is wrong."""
    what = unlike_in(goals, system, False)
    if what is not None:
        return (what,)
    for couple in couples_of(goals.sides):
        fault = couple_fault(goals, system, couple)
        if fault is not None:
            return fault
    return None


class Fall:
    """The row and the stands along which a table leads a system, and the couple that fails there."""

    def __init__(self, row, stands, couple, label):
        self.row = row
        self.stands = stands
        self.couple = couple
        self.label = label

    def __eq__(self, other):
        return (
            isinstance(other, Fall)
            and self.row == other.row
            and self.stands == other.stands
            and self.couple == other.couple
            and self.label == other.label
        )


def is_turn_lost(goals, table, turn, foes):
    """Return whether a talk ends wrongly at the turn (row, lots), or the stand there is in the table."""
    row, lots = turn
    if is_ended(row, foes):
        # behind a stop the speaker makes no difference any more
        return not stop_wins(goals, (lots[EAST], lots[WEST], end_at(row, foes), EAST), lots[EAST])
    return stand_at(row, lots, foes) in table


def fall_at_end(goals, turn, stands, foes):
    """Return the Fall at the turn (row, lots) at which a talk ends wrongly."""
    row, lots = turn
    couples = couples_in(lots)
    for couple in couples:
        if end_at(row, foes) not in goals.ends_for(couple):
            return Fall(row, stands, couple, "end")
    return Fall(row, stands, couples[0], "knows")


def fall_along(goals, table, system, leap):
    """Return the Fall to which a table without a fault, a dict, leads a system; foes keep to the leap."""
    turn = ((), all_lots(goals.sides))
    stands = ()
    while not is_ended(turn[0], system.foes):
        stand = stand_at(turn[0], turn[1], system.foes)
        stands = stands + (stand,)
        said = said_at(system, turn)
        mute = [kind for kind, word in said if word is None]
        if mute:
            return Fall(turn[0], stands, couples_in(lots_with(turn[1], stand[3], (mute[0],)))[0], "gap")
        behind = turns_behind(turn, said, goals.ladder, system.foes, leap)
        turn = [later for later in behind if is_turn_lost(goals, table, later, system.foes)][0]
    return fall_at_end(goals, turn, stands, system.foes)


def barring_table(goals, stands, leap):
    """Return the table as a dict of its stands, or raise NotLost if it has a fault."""
    label = fault_in_table(goals, stands, leap)
    if label is not None:
        raise NotLost(label)
    return {stand: True for stand in table_of(goals, stands)}


def fall_of(goals, stands, system):
    """Return the Fall of a plain system along a table, at a place where the system fails."""
    table = barring_table(goals, stands, 0)
    what = unlike_in(goals, system, False)
    if what is not None:
        raise NotAlike(what)
    return fall_along(goals, table, system, 0)
