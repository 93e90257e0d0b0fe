"""Systems made turn by turn: what the kinds say at the rows that their own words lead to."""

from risingcalls.basics import all_lots
from risingcalls.heard import turns_behind
from risingcalls.masks import masked_stand
from risingcalls.rows import is_ended
from risingcalls.stands import stand_at
from risingcalls.systems import System


def system_spoken(sides, ladder, speak, foes=False, leap=None):
    """Return the system in which, at each row that can come, the kinds say what speak(row, lots) tells.

    It tells the pairs (kind, word) for all kinds of the speaker's lot; foes, if any, are those of the leap.
    """
    answers = []
    turns = [((), all_lots(sides))]
    while turns:
        behind = []
        for row, lots in turns:
            said = speak(row, lots)
            answers.extend([(row, kind, word) for kind, word in said])
            behind.extend(turns_behind((row, lots), said, ladder, foes, leap))
        turns = [(row, lots) for row, lots in behind if not is_ended(row, foes)]
    return System(sides, ladder, answers, foes)


def system_by_stands(world, judge, foes=False, leap=None):
    """Return the system of the world's sides and ladder in which the kinds say what the judge tells at a stand.

    The judge's words_at tells of a stand with masks the pairs (kind, word) for all kinds of the speaker's lot.
    """
    def speak(row, lots):
        return judge.words_at(masked_stand(stand_at(row, lots, foes)))

    return system_spoken(world.sides, world.ladder, speak, foes, leap)
