"""Changes: answers put in and struck, one by one."""

from risingcalls.basics import STOP, is_sequence
from risingcalls.errors import BadChange
from risingcalls.systems import System, answer_fault

ANSWER = "answer"
STRIKE = "strike"


def is_change(thing):
    """Return whether a value has one of the two forms of a change."""
    if not is_sequence(thing):
        return False
    return (len(thing) == 4 and thing[0] == ANSWER) or (len(thing) == 3 and thing[0] == STRIKE)


def change_fault(system, change):
    """Return the label of what is wrong in a change of the system, None if nothing is."""
    if not is_change(change):
        return "change"
    # a strike has no word; a stop may be said at every row
    word = change[3] if change[0] == ANSWER else STOP
    return answer_fault(system.sides, system.ladder, system.foes, (change[1], change[2], word))


def check_changes(system, changes):
    """Return the changes as a tuple of tuples, their rows, too, or raise BadChange."""
    if not is_sequence(changes):
        raise BadChange(0, "sequence")
    for index, change in enumerate(changes):
        what = change_fault(system, change)
        if what is not None:
            raise BadChange(index, what)
    return tuple([(change[0], tuple(change[1])) + tuple(change[2:]) for change in changes])


def system_behind(system, changes):
    """Return the system behind changes that were checked."""
    words = {(row, kind): word for row, kind, word in system.answers}
    for change in changes:
        place = (change[1], change[2])
        if change[0] == ANSWER:
            words[place] = change[3]
        elif place in words:
            del words[place]
    return System(system.sides, system.ladder, [(row, kind, words[(row, kind)]) for row, kind in words], system.foes)


def system_after(system, changes):
    """Return the system behind the changes, made one by one in their order."""
    return system_behind(system, check_changes(system, changes))
