"""Systems made turn by turn: what the kinds say at the rows that their own words lead to."""

from risingcalls.basics import all_lots
from risingcalls.heard import turns_behind
from risingcalls.rows import is_ended
from risingcalls.systems import System


def system_spoken(sides, ladder, speak, foes=False, leap=None):
    """Return the system in which, at each row that can come, the kinds say what speak(row, lots) tells.

    It tells the pairs (kind, word) for all kinds of the speaker's lot; foes, if any, are those of the leap.
    """
    answers = []
    turns = [((), all_lots(sides))]
    while turns:
        behind = []
        for row, lots in turns:
            said = speak(row, lots)
            answers.extend([(row, kind, word) for kind, word in said])
            behind.extend(turns_behind((row, lots), said, ladder, foes, leap))
        turns = [(row, lots) for row, lots in behind if not is_ended(row, foes)]
    return System(sides, ladder, answers, foes)
