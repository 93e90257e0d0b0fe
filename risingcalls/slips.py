"""Slips: partners who say the call one above or one below the system's answer."""

from risingcalls.basics import EAST, STOP, WEST, check_couple, check_ladder, couples_of, is_whole
from risingcalls.errors import BadEnd, BadMost
from risingcalls.rows import check_row, end_at, foe_words_of, is_ended, rows_to, speaker_at
from risingcalls.systems import word_said


class SlipClash:
    """An ended row that is within reach of two couples."""

    def __init__(self, row, one, other):
        self.row = row
        self.one = one
        self.other = other

    def __eq__(self, other):
        return (
            isinstance(other, SlipClash)
            and self.row == other.row
            and self.one == other.one
            and self.other == other.other
        )


def check_most(most):
    """Return the most number of slips, or raise BadMost."""
    if not is_whole(most, 0):
        raise BadMost()
    return most


def is_slip(answer, word):
    """Return whether a word is said by a slip where this is the answer; both are calls then."""
    return answer != STOP and word != STOP and abs(answer - word) == 1


def kind_slips(system, row, side, kind):
    """Return the number of slips of a kind in a row, None if the row is not within its reach."""
    slips = 0
    for place, word in enumerate(row):
        if speaker_at(row[:place], system.foes) == side:
            answer = word_said(system, row[:place], kind)
            if answer is None or (answer != word and not is_slip(answer, word)):
                return None
            slips += 0 if answer == word else 1
    return slips


def slips_by_couple(system, row):
    """Return a dict of the number of slips of the couples within whose reach the row is, ascending."""
    slips = [
        [kind_slips(system, row, side, kind) for kind in range(system.sides[side])]
        for side in (EAST, WEST)
    ]
    return {
        (east, west): slips[EAST][east] + slips[WEST][west]
        for east, west in couples_of(system.sides)
        if slips[EAST][east] is not None and slips[WEST][west] is not None
    }


def couples_within(system, row, most):
    """Return the couples within whose reach the row is with at most so many slips, ascending."""
    slips = slips_by_couple(system, row)
    return tuple([couple for couple in slips if slips[couple] <= most])


def count_slips(system, row, couple):
    """Return the number of slips of both kinds in the row, None if it is not within reach of both."""
    kinds = check_couple(system.sides, couple)
    return slips_by_couple(system, check_row(row, system.ladder, system.foes)).get(kinds)


def told_with_slips(system, row, most):
    """Return the couples within whose reach the row is with at most so many slips, ascending."""
    words = check_row(row, system.ladder, system.foes)
    return couples_within(system, words, check_most(most))


def ended_rows(ladder, foes=False):
    """Yield all ended rows of a ladder, by length, then by words."""
    check_ladder(ladder)
    yield from [row for row in rows_to(ladder, foes) if is_ended(row, foes)]


def silent_ends(system, couple):
    """Return a list of (slips, end) for the ended rows within the couple's reach in which all foes are silent."""
    found = []
    for row in ended_rows(system.ladder, system.foes):
        slips = None
        if not system.foes or sum(foe_words_of(row)) == 0:
            slips = slips_by_couple(system, row).get(couple)
        if slips is not None:
            found.append((slips, end_at(row, system.foes)))
    return found


def ends_with_slips(system, couple, most):
    """Return the ends that can come for the couple with at most so many slips, ascending."""
    kinds = check_couple(system.sides, couple)
    check_most(most)
    return tuple(sorted({end for slips, end in silent_ends(system, kinds) if slips <= most}))


def slips_to_end(system, couple, end):
    """Return the least number of slips with which this end comes for the couple, None if it cannot come."""
    kinds = check_couple(system.sides, couple)
    if not is_whole(end, 0, system.ladder):
        raise BadEnd()
    return min([slips for slips, found in silent_ends(system, kinds) if found == end], default=None)


def find_clash(system, most):
    """Return the SlipClash of the first ended row within reach of two couples, None if there is none."""
    check_most(most)
    for row in ended_rows(system.ladder, system.foes):
        couples = couples_within(system, row, most)
        if len(couples) > 1:
            return SlipClash(row, couples[0], couples[1])
    return None


def slip_room(system):
    """Return the greatest number of slips without a clash, -1 if there is a clash without any, None if never."""
    seconds = []
    for row in ended_rows(system.ladder, system.foes):
        slips = slips_by_couple(system, row)
        # a row clashes as soon as its second couple has it within reach
        seconds.extend(sorted([slips[couple] for couple in slips])[1:2])
    return min(seconds) - 1 if seconds else None
