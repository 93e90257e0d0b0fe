"""Goals: which ends are wanted for which couple, and who must know at the end."""

from risingcalls.basics import (
    EAST,
    KINDS_MOST,
    LADDER_MOST,
    WEST,
    are_sides,
    check_couple,
    check_lot,
    check_side,
    check_side_order,
    is_sequence,
    is_truth,
    is_whole,
)
from risingcalls.errors import BadEnd, BadGoals, NotAlike, TooWide


def sides_of_lines(lines):
    """Return (lines, entries of each line), None if this is no list of lines of one length."""
    if not is_sequence(lines) or not all([is_sequence(line) for line in lines]):
        return None
    lengths = [len(line) for line in lines]
    if not lengths or lengths != [lengths[0]] * len(lengths):
        return None
    return (len(lengths), lengths[0])


def renumbered_lines(lines, side, order):
    """Return a list of the lines in which the side's kind order[k] is called k."""
    if side == EAST:
        return [lines[kind] for kind in order]
    return [[line[kind] for kind in order] for line in lines]


def are_ends(thing, ladder):
    """Return whether a value is a list or tuple of one end or more."""
    return is_sequence(thing) and len(thing) > 0 and all([is_whole(end, -ladder, ladder) for end in thing])


def is_knowing(thing):
    """Return whether a value is a pair that tells of both sides True or False."""
    return is_sequence(thing) and len(thing) == 2 and all([is_truth(part) for part in thing])


def raised_end(end, by):
    """Return the end with its call raised; 0 counts with the partners' ends."""
    return end - by if end < 0 else end + by


class Goals:
    """The wanted ends of each couple, and whether east and west must know."""

    def __init__(self, ladder, wanted, knows=(False, False)):
        if not is_whole(ladder, 0, LADDER_MOST):
            raise BadGoals("ladder")
        sides = sides_of_lines(wanted)
        if not are_sides(sides):
            raise BadGoals("sides")
        if not all([are_ends(ends, ladder) for line in wanted for ends in line]):
            raise BadGoals("wanted")
        if not is_knowing(knows):
            raise BadGoals("knows")
        self.ladder = ladder
        self.wanted = tuple([tuple([tuple(sorted(set(ends))) for ends in line]) for line in wanted])
        self.knows = tuple(knows)
        self.sides = sides

    def __eq__(self, other):
        return (
            isinstance(other, Goals)
            and self.ladder == other.ladder
            and self.wanted == other.wanted
            and self.knows == other.knows
        )

    def ends_for(self, couple):
        """Return the wanted ends of the couple, ascending."""
        east, west = check_couple(self.sides, couple)
        return self.wanted[east][west]

    def suits(self, couple, end, knowing):
        """Return whether the outcome is right for the couple."""
        ends = self.ends_for(couple)
        must = [side for side in (EAST, WEST) if self.knows[side]]
        return is_whole(end) and end in ends and all([knowing[side] is True for side in must])

    def implies(self, other):
        """Return whether each outcome that is right here is right in the other goals."""
        if self.sides != other.sides:
            raise NotAlike("sides")
        if self.ladder != other.ladder:
            raise NotAlike("ladder")
        if any([other.knows[side] and not self.knows[side] for side in (EAST, WEST)]):
            return False
        pairs = [pair for line, others in zip(self.wanted, other.wanted) for pair in zip(line, others)]
        return all([end in let for ends, let in pairs for end in ends])

    def kept(self, east_lot, west_lot):
        """Return the goals of the kinds of the lots; the lot's entry k is called k."""
        east = check_lot(east_lot, self.sides[EAST], EAST)
        west = check_lot(west_lot, self.sides[WEST], WEST)
        return Goals(self.ladder, [[self.wanted[e][w] for w in west] for e in east], self.knows)

    def renumbered(self, side, order):
        """Return the goals in which the side's kind order[k] is called k."""
        turned = check_side_order(order, self.sides[check_side(side)], side)
        return Goals(self.ladder, renumbered_lines(self.wanted, side, turned), self.knows)

    def raised(self, by):
        """Return the goals with the ladder and each end raised."""
        if not is_whole(by, 0, LADDER_MOST - self.ladder):
            raise BadGoals("ladder")
        wanted = [[[raised_end(end, by) for end in ends] for ends in line] for line in self.wanted]
        return Goals(self.ladder + by, wanted, self.knows)

    def without_foes(self):
        """Return the goals without the ends at which a foe's call stands."""
        wanted = [[[end for end in ends if end >= 0] for ends in line] for line in self.wanted]
        return Goals(self.ladder, wanted, self.knows)

    def with_end(self, couple, end):
        """Return the goals in which one end more is wanted for the couple."""
        east, west = check_couple(self.sides, couple)
        if not is_whole(end, -self.ladder, self.ladder):
            raise BadEnd()
        wanted = [list(line) for line in self.wanted]
        wanted[east][west] = wanted[east][west] + (end,)
        return Goals(self.ladder, wanted, self.knows)

    @staticmethod
    def all_wanted(sides, ladder, knows=(False, False)):
        """Return the goals that want every end of the ladder for each couple."""
        if not is_whole(ladder, 0, LADDER_MOST):
            raise BadGoals("ladder")
        if not are_sides(sides):
            raise BadGoals("sides")
        ends = list(range(-ladder, ladder + 1))
        return Goals(ladder, [[ends] * sides[WEST]] * sides[EAST], knows)


def check_width(goals, ladder, together, each=KINDS_MOST):
    """Return the goals, or raise TooWide.

    They are too wide if their ladder is above this one, if it is just this one and both sides have more kinds
    together than so many, or if a side has more kinds than each may have.
    """
    wide = goals.ladder == ladder and sum(goals.sides) > together
    if wide or goals.ladder > ladder or max(goals.sides) > each:
        raise TooWide()
    return goals
