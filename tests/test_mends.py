"""[10.10], [10.11]: wishes, least mends and spoilers."""

import itertools
import random
import unittest

from costworlds import drawn_costs, drawn_weights, told_total
from risingcalls.costs import Costs, Weights
from risingcalls.errors import BadChange, BadWish, HasFoes
from risingcalls.goals import Goals
from risingcalls.heard import gaps_of
from risingcalls.mends import Spoiler, find_spoilers, first_denied, least_mends
from risingcalls.systems import System
from slipworlds import told_slip_fault
from test_changes import drawn_change, told_after
from wonworlds import drawn_goals, wins_told
from worlds import (
    NO_SEQUENCE, NO_WHOLE, Case, answers_in, listed, lots_by_words, random_words, spoil, told_coming, told_ended,
)

WORLDS = [((1, 1), 1), ((2, 1), 2), ((1, 2), 2), ((2, 2), 2), ((2, 2), 3)]


def drawn_wish(rng, sides, ladder):
    name = rng.choice(("won", "slips", "ends", "tells", "total"))
    goals = drawn_goals(rng, sides, ladder, 0.9, rng.choice(((False, False), (False, True))))
    if name == "won":
        return (name, goals)
    if name == "slips":
        return (name, goals, rng.randint(0, 2))
    if name == "ends":
        return (name, rng.randint(0, ladder))
    if name == "tells":
        return (name, rng.randint(0, 1))
    return (name, drawn_costs(rng, sides, ladder), drawn_weights(rng, sides), rng.choice((0, 5, 20, 50, 10 ** 9)))


def told_met(words, sides, ladder, wish):
    """Whether the system meets a wish."""
    if gaps_of(System(sides, ladder, answers_in(words))):
        return False
    ended = [row for row in told_coming(words, sides, ladder, False) if told_ended(row, False)]
    if wish[0] == "won":
        return wins_told(wish[1], words)
    if wish[0] == "slips":
        return told_slip_fault(wish[1], words, wish[2]) is None
    if wish[0] == "ends":
        return all(max(row) <= wish[1] for row in ended)
    if wish[0] == "tells":
        return all(len(lots_by_words(words, sides, row, False)[wish[1]]) == 1 for row in ended)
    return told_total(wish[1], wish[2], words) <= wish[3]


def told_denied(words, sides, ladder, wishes):
    return next((at for at, wish in enumerate(wishes) if not told_met(words, sides, ladder, wish)), None)


class Wishes(Case):
    def test_each_wish(self):
        rng = random.Random(981)
        seen = {}
        for sides, ladder in WORLDS:
            for _ in range(120):
                words = random_words(rng, sides, ladder, False, rng.choice((0.8, 1.0, 1.0)), 0.4)
                wishes = [drawn_wish(rng, sides, ladder) for _ in range(rng.randint(0, 3))]
                system = System(sides, ladder, answers_in(words))
                wanted = told_denied(words, sides, ladder, wishes)
                self.same(first_denied(system, wishes), wanted)
                self.same(first_denied(system, tuple(list(wish) for wish in wishes)), wanted)
                for wish in wishes:
                    met = told_met(words, sides, ladder, wish)
                    self.same(first_denied(system, [wish]), None if met else 0)
                    seen[wish[0], met] = seen.get((wish[0], met), 0) + 1
        self.assertEqual(len(seen), 10)
        self.assertGreater(min(seen.values()), 10, seen)

    def test_a_gap_meets_no_wish(self):
        system = System((1, 1), 1, [((), 0, 1)])
        self.same(first_denied(system, [("ends", 1)]), 0)
        self.same(first_denied(system, [("tells", 0), ("ends", 1)]), 0)
        self.same(first_denied(system, []), None)
        # an answer that lacks where no talk comes is no gap
        self.same(first_denied(System((1, 1), 1, [((), 0, 0)]), [("ends", 0)]), None)

    def test_wishes_that_are_none(self):
        system = System((1, 2), 2, [])
        goals, costs, even = Goals.all_wanted((1, 2), 2), Costs(2, [[[1, 1, 1]] * 2]), Weights.even((1, 2))
        odd_goals = [None, (), Goals.all_wanted((2, 1), 2), Goals.all_wanted((1, 2), 1), costs]
        odds = [("won",), ("won", goals, 0), ("slips", goals), ("slips", goals, 0, 0), ("ends",), ("ends", 1, 1), ("tells",),
                ("total", costs, even), ("total", costs, even, 0, 0), ("win", goals), ("tell", 1), ("end", 1),
                ("slip", goals, 0), ("sum", costs, even, 0), (None, goals), (["won"], goals)]
        odds += [("won", odd) for odd in odd_goals] + [("slips", odd, 0) for odd in odd_goals]
        odds += [("slips", goals, odd) for odd in (*NO_WHOLE, -1)] + [("ends", odd) for odd in (*NO_WHOLE, -1, 3)]
        odds += [("tells", odd) for odd in (*NO_WHOLE, -1, 2)] + [("total", costs, even, odd) for odd in (*NO_WHOLE, -1)]
        odds += [("total", odd, even, 1) for odd in (None, (), goals, Costs(1, [[[1, 1]] * 2]), Costs(2, [[[1] * 3]] * 2))]
        odds += [("total", costs, odd, 1) for odd in (None, (), goals, costs, Weights.even((2, 1)), Weights.even((1, 1)))]
        good = [("won", goals), ("slips", goals, 0), ("ends", 2), ("tells", 1), ("total", costs, even, 0)]
        for work in (first_denied, lambda system, wishes: least_mends(system, [("strike", (), 0)], wishes),
                     lambda system, wishes: find_spoilers(system, [("strike", (), 0)], wishes)):
            for odd in NO_SEQUENCE:
                self.refused(BadWish(0), work, system, odd)
            for odd in (*NO_SEQUENCE, (), *odds):
                self.refused(BadWish(0), work, system, [odd])
                self.refused(BadWish(5), work, system, [*good, odd, None])
        self.same(first_denied(system, good), 0)
        self.same(first_denied(system.with_answer((), 0, 2).with_answer((2,), 0, 0).with_answer((2,), 1, 0), good), 3)

    def test_foes_come_first(self):
        system = System((1, 1), 1, [], True)
        self.refused(HasFoes(), first_denied, system, None)
        for work in (least_mends, find_spoilers):
            self.refused(HasFoes(), work, system, None, None)


class Mends(Case):
    def test_all_picks(self):
        rng = random.Random(982)
        seen = {0: 0, 1: 0, 2: 0}
        spoilt = 0
        for sides, ladder in WORLDS:
            for _ in range(80):
                words = random_words(rng, sides, ladder, False, 0.9, 0.4)
                system = System(sides, ladder, answers_in(words))
                pool = [drawn_change(rng, sides, ladder, False) for _ in range(rng.randint(1, 5))]
                wishes = [drawn_wish(rng, sides, ladder) for _ in range(rng.randint(0, 2))]

                def denied(pick):
                    return told_denied(told_after(words, [pool[at] for at in pick]), sides, ladder, wishes)

                picks = [pick for size in range(len(pool) + 1) for pick in itertools.combinations(range(len(pool)), size)]
                met = [pick for pick in picks if denied(pick) is None]
                least = [pick for pick in met if not any(set(less) < set(pick) for less in met)]
                self.same(least_mends(system, pool, wishes), tuple(least))
                self.same(least_mends(system, listed(pool), tuple(wishes)), tuple(least))
                wanted = [Spoiler(pick, extra, denied(tuple(sorted((*pick, extra))))) for pick in least
                          for extra in range(len(pool)) if extra not in pick]
                wanted = tuple(spoiler for spoiler in wanted if spoiler.denied is not None)
                self.same(find_spoilers(system, pool, wishes), wanted)
                spoilt += len(wanted) > 0
                seen[min(2, len(least))] += 1
        self.assertGreater(min(seen.values()), 2, seen)
        self.assertGreater(spoilt, 10)

    def test_by_hand(self):
        system = System((2, 1), 1, [((), 0, 0), ((), 1, 0)])
        pool = [("answer", (), 0, 1), ("answer", (), 1, 1), ("answer", (1,), 0, 0), ("strike", (1,), 0)]
        wishes = [("ends", 1), ("tells", 0)]
        self.same(least_mends(system, pool, wishes), ((0, 2), (1, 2)))
        self.same(find_spoilers(system, pool, wishes), (
            Spoiler((0, 2), 1, 1), Spoiler((0, 2), 3, 0), Spoiler((1, 2), 0, 1), Spoiler((1, 2), 3, 0)))
        self.same(least_mends(system, pool, []), ((),))
        self.same(find_spoilers(system, pool, [("tells", 1)]), (Spoiler((), 0, 0), Spoiler((), 1, 0)))
        self.same(least_mends(system, pool[:1], [("tells", 0)]), ())
        self.same(find_spoilers(system, pool[:1], [("tells", 0)]), ())

    def test_errors_in_their_order(self):
        system = System((1, 1), 1, [])
        for work in (least_mends, find_spoilers):
            for odd in (*NO_SEQUENCE, (), [None] * 6):
                self.refused(BadChange(0, "pool"), work, system, odd, None)
            self.refused(BadChange(1, "change"), work, system, [("strike", (), 0), None], None)
            self.refused(BadChange(0, "row"), work, system, [("strike", (2,), 0), None], None)
            self.refused(BadChange(0, "kind"), work, system, [("strike", (), 1)], None)
            self.refused(BadChange(0, "word"), work, system, [("answer", (), 0, 2)], None)
            self.refused(BadWish(0), work, system, [("answer", (), 0, 1)] * 5, None)

    def test_nothing_is_changed(self):
        system = System((1, 1), 1, [((), 0, 0)])
        pool, wishes = [["answer", [], 0, 1], ["answer", [1], 0, 0]], [["ends", 1]]
        before = (listed(pool), listed(wishes))
        found = least_mends(system, pool, wishes)
        self.same((pool, wishes), before)
        spoil(pool)
        self.same(found, ((),))
        self.same(system.answers, (((), 0, 0),))

    def test_equality(self):
        self.assertTrue(Spoiler((0,), 1, 2) == Spoiler((0,), 1, 2))
        self.unequal_to_all(Spoiler((0,), 1, 2), [Spoiler((1,), 1, 2), Spoiler((0,), 2, 2), Spoiler((0,), 1, 0), None,
                                                  ((0,), 1, 2)])
        thing = [1]
        self.assertIs(Spoiler(thing, 1, 2).pick, thing)


if __name__ == "__main__":
    unittest.main()
