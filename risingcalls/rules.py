"""Rules: one word under told conditions, and the situations that they look at."""

from risingcalls.basics import EAST, LADDER_MOST, WEST, check_kind, check_ladder, is_sequence, is_whole, other_side
from risingcalls.errors import BadRaise, BadRow, BadRule
from risingcalls.marks import NUMBER_MOST, is_name
from risingcalls.rows import check_row, rows_to, speaker_at, standing_at, words_of

NONE = "none"
TESTS_MOST = 4


def is_test(thing):
    """Return whether a value is a triple (mark, least, most)."""
    if not is_sequence(thing) or len(thing) != 3:
        return False
    mark, least, most = thing
    return is_name(mark) and is_whole(least, 0, NUMBER_MOST) and is_whole(most, least, NUMBER_MOST)


def are_tests(thing):
    """Return whether a value is a list or tuple of so many triples as a rule may have."""
    return is_sequence(thing) and len(thing) <= TESTS_MOST and all([is_test(part) for part in thing])


def is_condition(thing):
    """Return whether a value says of a word: anything, no such word, or this word."""
    return thing is None or thing == NONE or is_whole(thing, 0, LADDER_MOST)


def words_fault(word, tests, own, other, foe):
    """Return the label of the first of these parts of a rule that is wrong, None if none is."""
    if not is_whole(word, 0, LADDER_MOST):
        return "word"
    if not are_tests(tests):
        return "tests"
    for label, condition in (("own", own), ("other", other), ("foe", foe)):
        if not is_condition(condition):
            return label
    return None


def bounds_fault(low, high, side):
    """Return the label of the first of these parts of a rule that is wrong, None if none is."""
    if not is_whole(low, 0, LADDER_MOST):
        return "low"
    if high is not None and not is_whole(high, low, LADDER_MOST):
        return "high"
    if side is not None and not is_whole(side, EAST, WEST):
        return "side"
    return None


def raised_number(thing, by):
    """Return a number above 0 raised; 0, None and "none" stay."""
    return thing + by if is_whole(thing, 1) else thing


class Rule:
    """One word, and the conditions under which it is said."""

    def __init__(self, word, tests=(), own=None, other=None, foe=None, low=0, high=None, side=None):
        what = words_fault(word, tests, own, other, foe)
        if what is None:
            what = bounds_fault(low, high, side)
        if what is not None:
            raise BadRule(what)
        self.word = word
        self.tests = tuple([tuple(test) for test in tests])
        self.own = own
        self.other = other
        self.foe = foe
        self.low = low
        self.high = high
        self.side = side

    def __eq__(self, other):
        return (
            isinstance(other, Rule)
            and self.word == other.word
            and self.tests == other.tests
            and self.own == other.own
            and self.other == other.other
            and self.foe == other.foe
            and self.low == other.low
            and self.high == other.high
            and self.side == other.side
        )

    def raised(self, by):
        """Return the rule with its calls and bounds raised, or raise BadRaise."""
        if not is_whole(by, 0, LADDER_MOST):
            raise BadRaise()
        numbers = [raised_number(part, by) for part in (self.word, self.own, self.other, self.foe, self.low)]
        if any([is_whole(number, LADDER_MOST + 1) for number in numbers]):
            raise BadRaise()
        word, own, other, foe, low = numbers
        high = None if self.high is None else min(self.high + by, LADDER_MOST)
        return Rule(word, self.tests, own, other, foe, low, high, self.side)


def last_word(words):
    """Return the last of the words, "none" if there is none."""
    return words[-1] if words else NONE


def situation_at(row, foes=False):
    """Return (speaker, own, other, foe, standing) at a row at which a side speaks."""
    words = check_row(row, LADDER_MOST, foes)
    speaker = speaker_at(words, foes)
    if speaker is None:
        raise BadRow()
    own = last_word(words_of(words, foes, speaker))
    other = last_word(words_of(words, foes, other_side(speaker)))
    foe = last_word(words) if foes else NONE
    return (speaker, own, other, foe, standing_at(words))


def situations_of(ladder, foes=False):
    """Yield the situations of all rows of the ladder at which a side speaks, each once."""
    check_ladder(ladder)
    seen = {}
    for row in [row for row in rows_to(ladder, foes) if speaker_at(row, foes) is not None]:
        situation = situation_at(row, foes)
        if situation not in seen:
            seen[situation] = True
            yield situation


def suits_situation(rule, situation):
    """Return whether all conditions of the rule but for the tests hold in the situation."""
    speaker, own, other, foe, standing = situation
    pairs = ((rule.side, speaker), (rule.own, own), (rule.other, other), (rule.foe, foe))
    if not all([asked is None or asked == found for asked, found in pairs]):
        return False
    return rule.low <= standing and (rule.high is None or standing <= rule.high)


def fits_kind(rule, marks, kind, situation):
    """Return whether the rule fits the situation and this kind of the speaker, whose marks these are."""
    if not suits_situation(rule, situation):
        return False
    return all([kind in marks.kinds_with(name, least, most) for name, least, most in rule.tests])


def fits(rule, marks, kind, row, foes=False):
    """Return whether the rule fits at the row for this kind of the speaker, whose marks these are."""
    situation = situation_at(row, foes)
    return fits_kind(rule, marks, check_kind(kind, marks.kinds), situation)
