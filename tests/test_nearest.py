"""[10.12], [10.13]: the fewest changes behind which a system wins."""

import random
import unittest

from risingcalls.changes import system_after
from risingcalls.deciding import Won, decide_goals
from risingcalls.errors import BadLot, BadRow, BadSide, NotAlike, TooWide
from risingcalls.goals import Goals
from risingcalls.judging import system_fault
from risingcalls.nearest import Fewest, change_price, fewest_changes
from risingcalls.systems import System
from wonworlds import (
    drawn_goals, many_drawn, needed_systems, parts_of_parting, told_partings, told_stop_wins, wins_told, words_in,
)
from worlds import (
    ALL_SIDES, NO_SEQUENCE, NO_WHOLE, Case, answers_in, listed, lots_of, partner_rows, random_words, told_speaker,
)

TINY = [((1, 1), 0), ((1, 1), 1), ((1, 1), 3), ((2, 1), 1), ((2, 1), 2), ((1, 2), 2), ((2, 2), 1), ((3, 1), 1),
        ((1, 3), 2), ((3, 2), 1)]
WORLDS = [((2, 2), 3), ((3, 2), 2), ((2, 3), 3), ((2, 2), 4), ((3, 1), 4), ((4, 3), 2), ((3, 4), 1)]


def is_let(sides, ladder):
    return max(sides) <= 4 and (ladder < 4 or (ladder == 4 and sum(sides) <= 4))


def told_price(goals, words, row, lots, only):
    """The least number of changes from a row on, over all partings, one by one; None if none win."""
    side = len(row) % 2
    stand = (*lots, max(row, default=0), side)
    best = None
    for parting in told_partings(goals, stand):
        price = sum(words.get((row, kind)) != word for kind, word in zip(lots[side], parting))
        if only == 1 - side and price > 0:
            continue
        for word, part in parts_of_parting(stand, parting):
            if word == 0:
                behind = 0 if told_stop_wins(goals, stand, part) else None
            else:
                cut = (part, lots[1]) if side == 0 else (lots[0], part)
                behind = told_price(goals, words, row + (word,), cut, only)
            price = None if price is None or behind is None else price + behind
        if price is not None and (best is None or price < best):
            best = price
    return best


class FewestChanges(Case):
    def is_right(self, goals, system, only, found):
        self.assertIs(type(found), Fewest)
        self.assertIs(type(found.changes), tuple)
        self.same(len(found.changes), found.number)
        places = [change[1:3] for change in found.changes]
        self.assertEqual(len(set(places)), len(places))
        for change in found.changes:
            self.same(change[0], "answer")
            self.assertIs(type(change), tuple)
            if only is not None:
                self.same(told_speaker(change[1], False), only)
        after = system_after(system, found.changes)
        self.assertTrue(wins_told(goals, words_in(after)))
        self.assertIsNone(system_fault(goals, after))

    def test_no_fewer_changes_lead_to_any_system_that_wins(self):
        rng = random.Random(991)
        seen = {}
        for sides, ladder in TINY:
            systems = list(needed_systems(sides, ladder))
            for goals in many_drawn(992, [(sides, ladder)], shares=(0.5, 0.8)):
                winning = [words for words in systems if wins_told(goals, words)]
                for _ in range(2):
                    words = random_words(rng, sides, ladder, False, rng.choice((0.5, 0.8, 1.0)))
                    if winning and rng.random() < 0.4:
                        words.update(rng.choice(winning))
                        words.pop(rng.choice(list(words)))
                    system = System(sides, ladder, answers_in(words))
                    for only in (None, 0, 1):
                        prices = []
                        for other in winning:
                            unlike = [row for (row, kind), word in other.items() if words.get((row, kind)) != word]
                            if only is None or all(len(row) % 2 == only for row in unlike):
                                prices.append(len(unlike))
                        found = fewest_changes(goals, system, only=only)
                        if not prices:
                            self.same(found, None)
                        else:
                            self.same(found.number, min(prices))
                            self.is_right(goals, system, only, found)
                        price = min(prices, default=None)
                        seen[price] = seen.get(price, 0) + 1
                    self.same(fewest_changes(goals, system) is None, not isinstance(decide_goals(goals), Won))
        self.assertGreaterEqual(set(seen), {None, 0, 1, 2, 3})

    def test_larger_worlds(self):
        rng = random.Random(993)
        for goals in many_drawn(994, WORLDS, shares=(0.8, 0.95)):
            words = random_words(rng, goals.sides, goals.ladder, False, 0.9, 0.5)
            system = System(goals.sides, goals.ladder, answers_in(words))
            for only in (None, 0, 1):
                found = fewest_changes(goals, system, only=only)
                if found is not None:
                    self.is_right(goals, system, only, found)
                if sum(goals.sides) < 6:
                    lots = (tuple(range(goals.sides[0])), tuple(range(goals.sides[1])))
                    self.same(None if found is None else found.number, told_price(goals, words, (), lots, only))

    def test_a_system_that_wins_needs_none(self):
        for goals in many_drawn(995, [((2, 2), 3), ((4, 3), 3)], shares=(0.95,)):
            result = decide_goals(goals)
            if isinstance(result, Won):
                for only in (None, 0, 1):
                    self.same(fewest_changes(goals, result.system, only=only), Fewest(0, ()))

    def test_by_hand(self):
        goals = Goals(2, [[[0]], [[1, 2]]], (False, True))
        system = System((2, 1), 2, [((), 0, 0), ((), 1, 0), ((2,), 0, 0)])
        self.same(fewest_changes(goals, system), Fewest(1, (("answer", (), 1, 2),)))
        self.same(fewest_changes(goals, system, only=0), Fewest(1, (("answer", (), 1, 2),)))
        self.same(fewest_changes(goals, system, only=1), None)
        self.same(fewest_changes(goals, system.without_answer((2,), 0), only=0), None)
        self.same(fewest_changes(goals, system.without_answer((2,), 0)).number, 2)

    def test_equality(self):
        self.assertTrue(Fewest(1, ()) == Fewest(1, ()))
        self.unequal_to_all(Fewest(1, ()), [Fewest(2, ()), Fewest(1, (1,)), None, (1, ())])
        thing = [1]
        self.assertIs(Fewest(1, thing).changes, thing)


class Prices(Case):
    def test_every_row_and_lots(self):
        rng = random.Random(996)
        seen = set()
        for goals in many_drawn(997, [((1, 1), 2), ((2, 1), 2), ((1, 2), 3), ((2, 2), 2), ((3, 2), 1)], shares=(0.6, 0.9)):
            words = random_words(rng, goals.sides, goals.ladder, False, 0.8)
            system = System(goals.sides, goals.ladder, answers_in(words))
            for row in partner_rows(goals.ladder, False):
                for east in lots_of(goals.sides[0]):
                    for west in lots_of(goals.sides[1]):
                        only = rng.choice((None, 0, 1))
                        wanted = told_price(goals, words, row, (east, west), only)
                        self.same(change_price(goals, system, row, east, west, only=only), wanted)
                        self.same(change_price(goals, system, list(row), list(east), list(west), only=only), wanted)
                        seen.add(wanted)
        self.assertGreaterEqual(seen, {None, 0, 1, 2, 3})

    def test_errors_in_their_order(self):
        goals = Goals.all_wanted((2, 3), 2)
        odd = System((1, 1), 1, [], True)
        no_lots = (*NO_SEQUENCE, (), (1, 0), (0, 0), (True,), (-1,), (None,))
        for side in (*NO_WHOLE, -1, 2):
            if side is not None:
                self.refused(BadSide(), change_price, goals, odd, None, None, None, only=side)
                self.refused(BadSide(), fewest_changes, goals, odd, only=side)
        for lot in (*no_lots, (2,)):
            self.refused(BadLot(0), change_price, goals, odd, None, lot, None)
        for lot in (*no_lots, (3,)):
            self.refused(BadLot(1), change_price, goals, odd, None, (0,), lot)
        for row in (*NO_SEQUENCE, (3,), (0,), (2, 1), (1, 0), (True,)):
            self.refused(BadRow(), change_price, goals, odd, row, (0,), (0,))
        for system, what in ((odd, "sides"), (System((2, 3), 1, [], True), "ladder"), (System((2, 3), 2, [], True), "foes")):
            self.refused(NotAlike(what), change_price, goals, system, (), (0,), (0,))
            self.refused(NotAlike(what), fewest_changes, goals, system)

    def test_too_wide_comes_last(self):
        for sides in ALL_SIDES:
            for ladder in (0, 3, 4, 5, 6):
                if is_let(sides, ladder):
                    continue
                goals, system = Goals.all_wanted(sides, ladder), System(sides, ladder, [])
                self.refused(TooWide(), fewest_changes, goals, system)
                self.refused(TooWide(), change_price, goals, system, (), (0,), (0,))
                self.refused(NotAlike("foes"), fewest_changes, goals, System(sides, ladder, [], True))
                self.refused(BadRow(), change_price, goals, system, (0,), (0,), (0,))

    def test_the_widest_answer(self):
        rng = random.Random(998)
        for sides, ladder in (((4, 3), 3), ((3, 4), 3), ((2, 2), 4), ((1, 3), 4)):
            goals = drawn_goals(rng, sides, ladder, 0.9, (False, False))
            words = random_words(rng, sides, ladder, False, 0.9)
            found = fewest_changes(goals, System(sides, ladder, answers_in(words)))
            self.same(found is None, not isinstance(decide_goals(goals), Won))

    def test_nothing_is_changed(self):
        goals = Goals(2, [[[0]], [[1, 2]]])
        system = System((2, 1), 2, [((), 0, 1)])
        before = listed(system.answers)
        row, east, west = [], [0, 1], [0]
        change_price(goals, system, row, east, west)
        fewest_changes(goals, system)
        self.same((row, east, west, listed(system.answers)), ([], [0, 1], [0], before))


if __name__ == "__main__":
    unittest.main()
