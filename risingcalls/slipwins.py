"""Winning with slips: what systems win, and the tables of slip stands that bar all systems."""

from risingcalls.basics import EAST, STOP, WEST, is_sequence, is_whole, lots_with, other_side
from risingcalls.deciding import Lost, Won
from risingcalls.errors import BadSlipStand, TooWide
from risingcalls.goals import check_width
from risingcalls.picks import choices_from
from risingcalls.rows import end_at, is_ended, next_words, rows_to, speaker_at
from risingcalls.slips import check_most, couples_within, is_slip
from risingcalls.systems import System, unlike_in

SLIPS_MOST = 3
WIDE_LADDER = 4
KINDS_TOGETHER = 4
KINDS_EACH = 3


def is_doubted(couples, couple, side):
    """Return whether another of the couples has the same kind of this side."""
    return len([other for other in couples if other[side] == couple[side]]) > 1


def ended_fault(goals, row, couples):
    """Return the first thing that is wrong if the talk of one of these couples ends at the row, None if nothing is."""
    for couple in couples:
        if end_at(row, False) not in goals.ends_for(couple):
            return ("end", row, couple)
        for side in (EAST, WEST):
            if goals.knows[side] and is_doubted(couples, couple, side):
                return ("knows", row, couple, side)
    return None


def turn_fault(system, row, couples):
    """Return ("gap", row, kind) for the least kind in these couples that has no answer at the row, None if none."""
    side = speaker_at(row, False)
    mute = [couple[side] for couple in couples if not system.has_answer(row, couple[side])]
    return ("gap", row, min(mute)) if mute else None


def slip_fault(goals, system, most):
    """Return None if the system wins with most slips, otherwise a tuple of the first thing that is wrong."""
    check_most(most)
    what = unlike_in(goals, system, False)
    if what is not None:
        return (what,)
    for row in rows_to(goals.ladder, False):
        couples = couples_within(system, row, most)
        fault = ended_fault(goals, row, couples) if is_ended(row, False) else turn_fault(system, row, couples)
        if fault is not None:
            return fault
    return None


def first_slip_stand(goals):
    """Return the slip stand at which a talk begins."""
    return ((0,) * goals.sides[EAST], (0,) * goals.sides[WEST], 0, EAST)


def numbers_left(lots, most):
    """Return the numbers of both sides with most + 1 for each kind in no couple left, None if none is left."""
    east, west = lots
    if min(east) + min(west) > most:
        return None
    return (
        tuple([number if number + min(west) <= most else most + 1 for number in east]),
        tuple([number if number + min(east) <= most else most + 1 for number in west]),
    )


def number_behind(number, answer, word, most):
    """Return the number of a kind behind a word, if this was its answer; None is no answer."""
    if answer == word:
        return number
    return number + 1 if answer is not None and is_slip(answer, word) else most + 1


class SlipWins:
    """What is won with most slips, slip stand by slip stand."""

    def __init__(self, goals, most):
        self.goals = goals
        self.most = most
        self._won = {}

    def is_stand_won(self, stand):
        """Return whether the slip stand is won."""
        if stand not in self._won:
            self._won[stand] = self.giving_at(stand) is not None
        return self._won[stand]

    def givings(self, stand):
        """Return a list of all ways to give answers, by the speaker's kinds; None for those in no couple left."""
        words = next_words(self.goals.ladder, stand[2])
        return choices_from([words if number <= self.most else (None,) for number in stand[stand[3]]])

    def giving_at(self, stand):
        """Return the first way to give answers behind which no word is lost, None if there is none."""
        for given in self.givings(stand):
            if self.lost_word(stand, given) is None:
                return given
        return None

    def lost_word(self, stand, given):
        """Return the first word that can come where these answers are given and that is lost, None if none is."""
        for word in next_words(self.goals.ladder, stand[2]):
            lots = self.lots_behind(stand, given, word)
            if lots is not None and not self.is_word_won(stand, lots, word):
                return word
        return None

    def lots_behind(self, stand, given, word):
        """Return the numbers of both sides behind the word, None if it cannot come."""
        speaker = stand[3]
        numbers = [number_behind(number, answer, word, self.most) for number, answer in zip(stand[speaker], given)]
        return numbers_left(lots_with(stand[:2], speaker, tuple(numbers)), self.most)

    def is_word_won(self, stand, lots, word):
        """Return whether the word is won, behind which these numbers are left."""
        if word == STOP:
            return self.may_end(lots, stand[2])
        return self.is_stand_won((lots[EAST], lots[WEST], word, other_side(stand[3])))

    def may_end(self, lots, end):
        """Return whether it is right for all couples left that the talk ends so."""
        east, west = lots
        couples = [
            (one, other)
            for one, number in enumerate(east)
            for other, more in enumerate(west)
            if number + more <= self.most
        ]
        if any([end not in self.goals.wanted[one][other] for one, other in couples]):
            return False
        must = [side for side in (EAST, WEST) if self.goals.knows[side]]
        return not any([is_doubted(couples, couple, side) for couple in couples for side in must])


class SlipTable(SlipWins):
    """What is won with most slips if a slip stand is lost exactly if it is in a table, a dict."""

    def __init__(self, goals, most, table):
        SlipWins.__init__(self, goals, most)
        self.table = table

    def is_stand_won(self, stand):
        """Return whether the slip stand is not in the table."""
        return stand not in self.table


def are_numbers(thing, kinds, most):
    """Return whether a value has a number of slips for each of so many kinds."""
    return is_sequence(thing) and len(thing) == kinds and all([is_whole(number, 0, most + 1) for number in thing])


def check_slip_stand(goals, stand, most):
    """Return the slip stand as a tuple, its numbers, too, or raise BadSlipStand."""
    if not is_sequence(stand) or len(stand) != 4:
        raise BadSlipStand()
    east, west, end, speaker = stand
    if not are_numbers(east, goals.sides[EAST], most) or not are_numbers(west, goals.sides[WEST], most):
        raise BadSlipStand()
    if not is_whole(end, 0, goals.ladder) or not is_whole(speaker, EAST, WEST):
        raise BadSlipStand()
    lots = (tuple(east), tuple(west))
    if numbers_left(lots, most) != lots:
        raise BadSlipStand()
    return (lots[EAST], lots[WEST], end, speaker)


def check_slip_width(goals, most):
    """Raise BadMost or TooWide if the question is wider than is let."""
    check_most(most)
    check_width(goals, WIDE_LADDER, KINDS_TOGETHER, KINDS_EACH)
    if most > SLIPS_MOST:
        raise TooWide()


def is_slip_won(goals, stand, most):
    """Return whether a slip stand is won."""
    check_slip_width(goals, most)
    return SlipWins(goals, most).is_stand_won(check_slip_stand(goals, stand, most))


def won_slip_system(wins):
    """Return a system that wins with most slips, where the first slip stand is won."""
    ladder = wins.goals.ladder
    answers = []
    turns = [((), first_slip_stand(wins.goals))]
    while turns:
        row, stand = turns.pop()
        given = wins.giving_at(stand)
        answers.extend([(row, kind, answer) for kind, answer in enumerate(given) if answer is not None])
        for word in next_words(ladder, stand[2])[1:]:
            lots = wins.lots_behind(stand, given, word)
            if lots is not None:
                turns.append((row + (word,), (lots[EAST], lots[WEST], word, other_side(stand[3]))))
    return System(wins.goals.sides, ladder, answers)


def lost_slip_stands(wins):
    """Return slip stands, ascending, that are closed: at each one every giving of answers leads to a lost word."""
    found = {first_slip_stand(wins.goals): True}
    waiting = list(found)
    while waiting:
        stand = waiting.pop()
        for given in wins.givings(stand):
            word = wins.lost_word(stand, given)
            lots = wins.lots_behind(stand, given, word)
            behind = (lots[EAST], lots[WEST], word, other_side(stand[3]))
            if word != STOP and behind not in found:
                found[behind] = True
                waiting.append(behind)
    return tuple(sorted(list(found)))


def decide_slips(goals, most):
    """Return Won with a system that wins with most slips, or Lost with a table that bars all."""
    check_slip_width(goals, most)
    wins = SlipWins(goals, most)
    if wins.is_stand_won(first_slip_stand(goals)):
        return Won(won_slip_system(wins))
    return Lost(lost_slip_stands(wins))


def slip_table_of(goals, most, stands):
    """Return a dict of the slip stands of a table, None if there is something else in it."""
    if not is_sequence(stands):
        return None
    try:
        return {check_slip_stand(goals, stand, most): True for stand in stands}
    except BadSlipStand:
        return None


def slip_table_fault(goals, most, stands):
    """Return the label of the first fault of a table of slip stands claimed to be lost, None if there is none."""
    check_slip_width(goals, most)
    table = slip_table_of(goals, most, stands)
    if table is None:
        return "stand"
    if first_slip_stand(goals) not in table:
        return "first"
    wins = SlipTable(goals, most, table)
    return "leak" if any([wins.giving_at(stand) is not None for stand in table]) else None


def most_slips(goals):
    """Return the greatest number of slips, up to 3, with which the goals are won, None if there is none."""
    won = [most for most in range(SLIPS_MOST + 1) if is_slip_won(goals, first_slip_stand(goals), most)]
    return max(won, default=None)
