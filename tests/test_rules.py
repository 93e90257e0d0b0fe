"""[3.1] to [3.4], and [3.8] for rules."""

import itertools
import random
import unittest

from bookworlds import raised_row, some_marks, some_rule, told_fits, told_situation
from risingcalls.errors import BadKind, BadLadder, BadRaise, BadRow, BadRule
from risingcalls.marks import Marks
from risingcalls.rules import Rule, fits, situation_at, situations_of
from worlds import NO_SEQUENCE, NO_WHOLE, Case, listed, partner_rows, spoil, told_rows, told_speaker

PARTS = ("word", "tests", "own", "other", "foe", "low", "high", "side")
WRONG = {
    "word": (*NO_WHOLE, -1, 7),
    "tests": (*NO_SEQUENCE, [("a", 0, 1)] * 5, [()], [("a", 0)], [("a", 0, 1, 2)], [None], ["a01"], [("A", 0, 1)],
              [("", 0, 1)], [("abcdefghi", 0, 1)], [(1, 0, 1)], [("a", -1, 1)], [("a", 0, 41)], [("a", 2, 1)],
              [("a", True, 1)], [("a", 0, True)], [("a", None, 1)], [("a", 0, None)], [("a", 0, 1), ("a", 41, 41)],
              [("a", 0, "1")], [{"a": 1}]),
    "own": (True, False, -1, 7, "None", "", "1", 1.5, (), [1]),
    "other": (True, False, -1, 7, "none ", "", "0", 0.0, (), ["none"]),
    "foe": (True, False, -1, 7, "NONE", "", "6", 6.0, (), {}),
    "low": (*NO_WHOLE, -1, 7),
    "high": (True, False, -1, 7, "1", "none", 1.0, ()),
    "side": (True, False, -1, 2, "0", "none", 1.0, ()),
}
FULL = {"word": 3, "tests": (("a", 0, 40), ("bb", 7, 7)), "own": 0, "other": "none", "foe": 6, "low": 2, "high": 5,
        "side": 1}


def eight(rule):
    return tuple(getattr(rule, part) for part in PARTS)


class Making(Case):
    def test_attributes(self):
        self.same(eight(Rule(0)), (0, (), None, None, None, 0, None, None))
        self.same(eight(Rule(**FULL)), tuple(FULL[part] for part in PARTS))
        self.same(eight(Rule(*(listed(FULL[part]) for part in PARTS))), tuple(FULL[part] for part in PARTS))
        self.same(Rule(1, [["a", 1, 2], ("b", 0, 0)]).tests, (("a", 1, 2), ("b", 0, 0)))

    def test_all_that_is_let(self):
        for word in range(7):
            self.same(Rule(word).word, word)
        for thing in (None, "none", *range(7)):
            self.same(eight(Rule(1, (), thing, thing, thing))[2:5], (thing, thing, thing))
        for low in range(7):
            for high in (None, *range(7)):
                if high is None or low <= high:
                    self.same(eight(Rule(1, low=low, high=high))[5:7], (low, high))
                else:
                    self.refused(BadRule("high"), Rule, 1, low=low, high=high)
        for side in (None, 0, 1):
            self.same(Rule(1, side=side).side, side)
        for many in range(5):
            self.same(len(Rule(1, [("abcdefgh", 0, 40)] * many).tests), many)
        for least, most in itertools.product((0, 1, 39, 40), repeat=2):
            if least <= most:
                self.same(Rule(1, [("a", least, most)]).tests, (("a", least, most),))
            else:
                self.refused(BadRule("tests"), Rule, 1, [("a", least, most)])

    def test_each_wrong_part(self):
        for part, things in WRONG.items():
            for thing in things:
                self.refused(BadRule(part), Rule, **{**FULL, part: thing})
                self.refused(BadRule(part), Rule, **{"word": 1, part: thing})

    def test_of_two_faults_the_first_one_counts(self):
        for one, other in itertools.combinations(PARTS, 2):
            for thing, behind in itertools.product(WRONG[one][:4], WRONG[other][:4]):
                self.refused(BadRule(one), Rule, **{**FULL, one: thing, other: behind})

    def test_later_changes_have_no_effect(self):
        tests = [["a", 0, 1]]
        rule = Rule(1, tests)
        self.same(tests, [["a", 0, 1]])
        spoil(tests)
        self.same(rule.tests, (("a", 0, 1),))

    def test_equality(self):
        self.assertTrue(Rule(**FULL) == Rule(**{**FULL, "tests": listed(FULL["tests"])}))
        others = {"word": 4, "tests": FULL["tests"][::-1], "own": None, "other": 0, "foe": "none", "low": 1, "high": None,
                  "side": None}
        self.unequal_to_all(Rule(**FULL), [Rule(**{**FULL, part: others[part]}) for part in PARTS])
        self.unequal_to_all(Rule(0), [None, 0, (0,), "rule", eight(Rule(0))])


class Situations(Case):
    def test_every_row(self):
        for foes in (False, True):
            for ladder in (0, 1, 2, 3, 6) if not foes else (0, 1, 2, 3):
                for row in told_rows(ladder, foes):
                    if told_speaker(row, foes) is None:
                        self.refused(BadRow(), situation_at, row, foes)
                    else:
                        self.same(situation_at(row, foes), told_situation(row, foes))
                        self.same(situation_at(list(row), foes), told_situation(row, foes))

    def test_named_situations(self):
        self.same(situation_at(()), (0, "none", "none", "none", 0))
        self.same(situation_at((2,)), (1, "none", 2, "none", 2))
        self.same(situation_at((2, 5)), (0, 2, 5, "none", 5))
        self.same(situation_at((), True), (0, "none", "none", "none", 0))
        self.same(situation_at((0, 3), True), (1, "none", 0, 3, 3))
        self.same(situation_at((0, 3, 4, 0), True), (0, 0, 4, 0, 4))

    def test_no_rows(self):
        for foes in (False, True):
            for row in (*NO_SEQUENCE, (7,), (1, 1), (-1,), (True,), (None,), (1.0,)):
                self.refused(BadRow(), situation_at, row, foes)
        for row in ((0,), (1, 0), (0, 1), (2, 1)):
            self.refused(BadRow(), situation_at, row)
        for row in ((0,), (1,), (0, 0), (0, 1, 0), (1, 0, 0, 0), (0, 0, 1)):
            self.refused(BadRow(), situation_at, row, True)

    def test_situations_come_once_in_the_order_of_the_rows(self):
        for foes in (False, True):
            for ladder in range(7 if not foes else 5):
                wanted = dict.fromkeys(told_situation(row, foes) for row in partner_rows(ladder, foes))
                self.same(list(situations_of(ladder, foes)), list(wanted))
        self.same(list(situations_of(1)), [(0, "none", "none", "none", 0), (1, "none", 1, "none", 1)])
        self.same(list(situations_of(0, True)), [(0, "none", "none", "none", 0)])

    def test_the_greatest_ladder_against_foes(self):
        found = list(situations_of(6, True))
        self.assertEqual(len(found), len(set(found)))
        self.assertGreater(len(found), len(list(situations_of(5, True))))
        self.assertTrue({(1, "none", 6, 0, 6), (0, 0, 0, 6, 6), (1, 0, 0, 6, 6)} <= set(found))

    def test_wrong_ladders(self):
        for foes in (False, True):
            for ladder in (*NO_WHOLE, -1, 7):
                self.refused(BadLadder(), situations_of, ladder, foes)


class Fitting(Case):
    def test_each_condition_alone_in_every_situation(self):
        marks = Marks(["hue", "x"], [[0, 2], [1, 0], [2, 1]])
        words = (None, "none", 0, 1, 2, 3)
        rules = [Rule(0, own=word) for word in words] + [Rule(0, other=word) for word in words]
        rules += [Rule(0, foe=word) for word in words] + [Rule(0, side=side) for side in (None, 0, 1)]
        rules += [Rule(0, low=low, high=high) for low in range(4) for high in (None, *range(low, 4))]
        rules += [Rule(0, [(name, least, most)]) for name in ("hue", "x", "none") for least in range(3)
                  for most in range(least, 3)]
        for foes, ladder in ((False, 3), (True, 3)):
            for row in partner_rows(ladder, foes):
                for rule, kind in itertools.product(rules, range(3)):
                    self.same(fits(rule, marks, kind, list(row), foes), told_fits(rule, marks, kind, row, foes))

    def test_several_conditions_together(self):
        rng = random.Random(41)
        counts = {True: 0, False: 0}
        for foes, ladder in ((False, 3), (True, 2)):
            for _ in range(250):
                rule, marks = some_rule(rng, ladder, foes, 0.4), some_marks(rng, 3)
                for row in partner_rows(ladder, foes):
                    for kind in range(3):
                        wanted = told_fits(rule, marks, kind, row, foes)
                        self.same(fits(rule, marks, kind, row, foes), wanted)
                        counts[wanted] += 1
        self.assertGreater(min(counts.values()), 500)

    def test_a_test_on_an_unknown_mark_never_holds(self):
        marks = Marks(["a"], [[0], [40]])
        for kind in (0, 1):
            self.same(fits(Rule(0, [("b", 0, 40)]), marks, kind, ()), False)
            self.same(fits(Rule(0, [("a", 0, 40)]), marks, kind, ()), True)
        self.same(fits(Rule(0, [("a", 0, 39)]), marks, 1, ()), False)
        self.same(fits(Rule(0, [("a", 1, 40)]), marks, 0, ()), False)
        self.same(fits(Rule(0, [("a", 40, 40), ("a", 0, 40)]), marks, 1, ()), True)
        self.same(fits(Rule(0, [("a", 0, 40), ("a", 0, 0)]), marks, 1, ()), False)

    def test_wrong_rows_then_wrong_kinds(self):
        marks = Marks(["a"], [[0], [40]])
        for row in (*NO_SEQUENCE, (0,), (7,), (1, 1), (True,)):
            self.refused(BadRow(), fits, Rule(0), marks, 0, row)
            self.refused(BadRow(), fits, Rule(0), marks, 9, row)
        self.refused(BadRow(), fits, Rule(0), marks, 0, (1,), True)
        for kind in (*NO_WHOLE, -1, 2):
            self.refused(BadKind(), fits, Rule(0), marks, kind, ())
            self.refused(BadKind(), fits, Rule(0, side=1), marks, kind, (1, 0), True)


class Raising(Case):
    def test_all_numbers(self):
        def up(thing, by):
            return thing + by if isinstance(thing, int) and thing > 0 else thing

        things = (None, "none", 0, 1, 5, 6)
        for word, own, other, foe in itertools.product((0, 1, 5, 6), things, things, things):
            for by in (0, 1, 5, 6):
                rule = Rule(word, [("a", 1, 2)], own, other, foe, side=1)
                wanted = [up(thing, by) for thing in (word, own, other, foe)]
                if any(isinstance(thing, int) and thing > 6 for thing in wanted):
                    self.refused(BadRaise(), rule.raised, by)
                else:
                    self.same(eight(rule.raised(by)), (wanted[0], (("a", 1, 2),), *wanted[1:], 0, None, 1))

    def test_bounds(self):
        for low in range(7):
            for high in (None, *range(low, 7)):
                for by in range(7):
                    rule = Rule(0, low=low, high=high)
                    if low and low + by > 6:
                        self.refused(BadRaise(), rule.raised, by)
                    else:
                        wanted = (low + by if low else 0, None if high is None else min(6, high + by))
                        self.same(eight(rule.raised(by))[5:7], wanted)
                        self.same(eight(rule), (0, (), None, None, None, low, high, None))

    def test_wrong_raises(self):
        for by in (*NO_WHOLE, -1, 7):
            self.refused(BadRaise(), Rule(0).raised, by)
            self.refused(BadRaise(), Rule(6).raised, by)
        self.same(Rule(0).raised(6) == Rule(0), True)

    def test_for_every_rule_marks_kind_row_and_by(self):
        rng = random.Random(42)
        found = {True: 0, False: 0}
        for foes, ladder in ((False, 4), (True, 2), (True, 3)):
            rows = partner_rows(ladder, foes)
            for _ in range(120):
                rule, marks = some_rule(rng, rng.randint(1, ladder), foes, 0.4), some_marks(rng, 2)
                for by in range(7 - ladder):
                    try:
                        raised = rule.raised(by)
                    except BadRaise:
                        continue
                    for row in rng.sample(rows, min(len(rows), 12)):
                        for kind in (0, 1):
                            wanted = fits(rule, marks, kind, row, foes)
                            self.same(fits(raised, marks, kind, raised_row(row, by), foes), wanted)
                            found[wanted] += 1
        self.assertGreater(min(found.values()), 300)

    def test_every_bound_at_every_standing_call(self):
        marks = Marks(["a"], [[0]])
        for low in range(7):
            for high in (None, *range(low, 7)):
                for by in range(7):
                    if low and low + by > 6:
                        continue
                    raised = Rule(0, low=low, high=high).raised(by)
                    for row in [(), *((call,) for call in range(1, 7 - by))]:
                        self.same(fits(raised, marks, 0, raised_row(row, by)),
                                  fits(Rule(0, low=low, high=high), marks, 0, row))


if __name__ == "__main__":
    unittest.main()
