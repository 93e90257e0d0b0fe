"""Marks: numbers of one side's kinds under names, for the rules of a book."""

from risingcalls.basics import KINDS_MOST, check_kind, is_order, is_sequence, is_whole
from risingcalls.errors import BadMarks, BadOrder
from risingcalls.picks import all_picks

NAMES_MOST = 4
LETTERS_MOST = 8
NUMBER_MOST = 40


def is_name(thing):
    """Return whether a value is a text of 1 to 8 letters a to z."""
    if not isinstance(thing, str) or not 1 <= len(thing) <= LETTERS_MOST:
        return False
    return all(["a" <= sign <= "z" for sign in thing])


def check_names(names):
    """Return the names as a tuple, or raise BadMarks."""
    if not is_sequence(names) or not 1 <= len(names) <= NAMES_MOST:
        raise BadMarks(None, "names")
    for index, name in enumerate(names):
        if not is_name(name) or name in names[:index]:
            raise BadMarks(index, "names")
    return tuple(names)


def check_lines(lines, many):
    """Return the lines of so many numbers as tuples, or raise BadMarks."""
    if not is_sequence(lines) or not 1 <= len(lines) <= KINDS_MOST:
        raise BadMarks(None, "lines")
    for index, line in enumerate(lines):
        if not is_sequence(line) or len(line) != many:
            raise BadMarks(index, "line")
        if not all([is_whole(number, 0, NUMBER_MOST) for number in line]):
            raise BadMarks(index, "number")
    return tuple([tuple(line) for line in lines])


class Marks:
    """The numbers of each kind of one side under the names."""

    def __init__(self, names, lines):
        self.names = check_names(names)
        self.lines = check_lines(lines, len(self.names))

    def __eq__(self, other):
        return isinstance(other, Marks) and self.names == other.names and self.lines == other.lines

    @property
    def kinds(self):
        """How many kinds there are."""
        return len(self.lines)

    def value_of(self, kind, name):
        """Return the kind's number under the name, None if there is no such name."""
        line = self.lines[check_kind(kind, self.kinds)]
        return line[self.names.index(name)] if name in self.names else None

    def kinds_with(self, name, least, most):
        """Return the kinds whose number under the name is from least to most, ascending."""
        if name not in self.names:
            return ()
        at = self.names.index(name)
        return tuple([kind for kind, line in enumerate(self.lines) if least <= line[at] <= most])

    def renumbered(self, order):
        """Return the marks in which kind order[k] is called k."""
        if not is_order(order, self.kinds):
            raise BadOrder()
        return Marks(self.names, [self.lines[kind] for kind in order])


def groups_by(marks, names):
    """Return the lots of kinds whose numbers agree under each of the names, by their first kinds."""
    known = [name for name in marks.names if name in names]
    groups = {}
    for kind in range(marks.kinds):
        numbers = tuple([marks.value_of(kind, name) for name in known])
        groups[numbers] = groups.get(numbers, ()) + (kind,)
    return tuple([groups[numbers] for numbers in groups])


def least_names(marks):
    """Return all least picks of names that tell apart what all names tell apart."""
    apart = groups_by(marks, marks.names)
    found = []
    for places in all_picks(len(marks.names)):
        pick = tuple([marks.names[place] for place in places])
        # the lesser picks came first, so one that suffices holds a pick that was found
        lesser = [less for less in found if all([name in pick for name in less])]
        if not lesser and groups_by(marks, pick) == apart:
            found.append(pick)
    return tuple(found)
