"""The errors of the package: each one stands directly under CallError."""


class CallError(ValueError):
    """Whatever the package refuses."""


class BadGoals(CallError):
    """The goals are none; what names the part that is wrong."""

    def __init__(self, what):
        self.what = what


class BadCouple(CallError):
    """The value is no couple of kinds."""


class BadLot(CallError):
    """The value is no lot, or no order, of this side's kinds."""

    def __init__(self, side):
        self.side = side


class BadOrder(CallError):
    """The value is no order of the kinds."""


class BadSide(CallError):
    """The value is no side."""


class BadMarks(CallError):
    """The marks are none; index tells the name or the line, if one is wrong."""

    def __init__(self, index, what):
        self.index = index
        self.what = what


class BadText(CallError):
    """The line of this number, from 1, is wrong."""

    def __init__(self, number, what):
        self.number = number
        self.what = what


class BadRow(CallError):
    """The value is no row that is asked for."""


class BadSystem(CallError):
    """The system is none; index tells the answer, if one is wrong."""

    def __init__(self, index, what):
        self.index = index
        self.what = what


class NoAnswer(CallError):
    """The system has no answer to the row and the kind."""

    def __init__(self, row):
        self.row = row


class BadFoe(CallError):
    """The foe's word of this index may not be said."""

    def __init__(self, index):
        self.index = index


class NotAlike(CallError):
    """Two things that must be alike differ in what is named."""

    def __init__(self, what):
        self.what = what


class HasGap(CallError):
    """The system has no answer of this kind at this row."""

    def __init__(self, row, kind):
        self.row = row
        self.kind = kind


class HasFoes(CallError):
    """The system is one with foes."""


class BadRule(CallError):
    """The rule is none; what names the part that is wrong."""

    def __init__(self, what):
        self.what = what


class BadBook(CallError):
    """The book is none; index tells the rule, if one is wrong."""

    def __init__(self, index):
        self.index = index


class NoRule(CallError):
    """The book has no rule of this number that is asked for."""

    def __init__(self, number):
        self.number = number


class BadLadder(CallError):
    """The value is no ladder of the range that is asked for."""


class BadKind(CallError):
    """The value is no kind that is asked for."""


class BadRaise(CallError):
    """A rule cannot be raised by so much."""


class BadStand(CallError):
    """The value is no stand; what names the part that is wrong."""

    def __init__(self, what):
        self.what = what


class BadPart(CallError):
    """The value is no part of the stand."""


class BadWord(CallError):
    """The word may not be said at the stand."""

    def __init__(self, word):
        self.word = word


class NotLost(CallError):
    """The table bars nothing; label names its fault."""

    def __init__(self, label):
        self.label = label


class BadKinds(CallError):
    """The value is no number of kinds that is asked for."""


class BadEnds(CallError):
    """The value is no sequence of ends."""


class BadEnd(CallError):
    """The value is no end that is asked for."""


class BadWords(CallError):
    """The value is no bound of the words."""


class BadBranch(CallError):
    """The branch of this index is wrong; label tells in what."""

    def __init__(self, index, label):
        self.index = index
        self.label = label


class BadLeap(CallError):
    """The value is no leap."""


class BadFoeBook(CallError):
    """The foes' book is none; index tells the answer, if one is wrong."""

    def __init__(self, index, what):
        self.index = index
        self.what = what


class BadCosts(CallError):
    """The costs are none; what names the part that is wrong."""

    def __init__(self, what):
        self.what = what


class BadWeights(CallError):
    """The weights are none; what names the part that is wrong."""

    def __init__(self, what):
        self.what = what


class BadMixture(CallError):
    """The mixture is none; index tells the share or the system."""

    def __init__(self, index, what):
        self.index = index
        self.what = what


class BadHabit(CallError):
    """The habit is none; what names the part that is wrong."""

    def __init__(self, what):
        self.what = what


class TooWide(CallError):
    """The question is wider than is let."""


class BadPool(CallError):
    """The pool is none; index tells the system, if one is wrong."""

    def __init__(self, index):
        self.index = index


class BadTalk(CallError):
    """The talk of this index is wrong."""

    def __init__(self, index):
        self.index = index


class BadMost(CallError):
    """The value is no most number of slips."""


class BadSlipStand(CallError):
    """The value is no slip stand."""


class BadChange(CallError):
    """The change of this index is wrong; what tells in what."""

    def __init__(self, index, what):
        self.index = index
        self.what = what


class BadWish(CallError):
    """The wish of this index is wrong."""

    def __init__(self, index):
        self.index = index


class NoChange(CallError):
    """No standing change has this number."""

    def __init__(self, number):
        self.number = number
