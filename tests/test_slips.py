"""[10.1] to [10.4]: slips, the rows and the ends that they lead to, and clashes."""

import random
import unittest

from risingcalls.errors import BadCouple, BadEnd, BadLadder, BadMost, BadRow
from risingcalls.heard import lots_at
from risingcalls.slips import (
    SlipClash, count_slips, ended_rows, ends_with_slips, find_clash, slip_room, slips_to_end, told_with_slips,
)
from risingcalls.systems import System
from slipworlds import slipped_rows
from test_alike import couples
from worlds import (
    NO_SEQUENCE, NO_WHOLE, Case, answers_in, listed, random_words, told_end, told_ended, told_rows,
)

WORLDS = [((1, 1), 0, False), ((2, 1), 1, False), ((2, 1), 3, False), ((2, 2), 2, False), ((1, 3), 4, False),
          ((3, 2), 3, False), ((1, 1), 6, False), ((1, 1), 2, True), ((2, 1), 2, True), ((2, 2), 2, True),
          ((1, 2), 3, True)]
NO_COUPLES = (*NO_SEQUENCE, (), (0,), (2, 0), (0, 1), (0, 0, 0), (True, 0), (-1, 0), (None, 0))


def drawn(seed, many=5):
    rng = random.Random(seed)
    for sides, ladder, foes in WORLDS:
        for _ in range(many):
            words = random_words(rng, sides, ladder, foes, rng.choice((0.7, 1.0, 1.0)), rng.choice((0.0, 0.5)))
            yield sides, ladder, foes, words, System(sides, ladder, answers_in(words), foes)


class Reach(Case):
    def test_every_row_and_couple(self):
        seen = {None: 0, 0: 0, 1: 0, 2: 0}
        for sides, ladder, foes, words, system in drawn(951):
            reached = {couple: slipped_rows(words, ladder, foes, couple) for couple in couples(sides)}
            for row in told_rows(ladder, foes):
                for couple in couples(sides):
                    slips = reached[couple].get(row)
                    self.same(count_slips(system, row, couple), slips)
                    seen[slips] = seen.get(slips, 0) + 1
                for most in (0, 1, 2, 9):
                    wanted = tuple(couple for couple in couples(sides) if reached[couple].get(row, 10) <= most)
                    self.same(told_with_slips(system, row, most), wanted)
                lots = lots_at(system, row)
                self.same(told_with_slips(system, row, 0), tuple((e, w) for e in lots[0] for w in lots[1]))
                self.same(count_slips(system, list(row), list(couple)), reached[couple].get(row))
        self.assertGreater(min(seen.values()), 5, seen)

    def test_by_hand(self):
        system = System((1, 1), 4, [((), 0, 2), ((2,), 0, 0), ((3,), 0, 4), ((1,), 0, 2), ((3, 4), 0, 0)])
        for row, slips in (((2,), 0), ((1,), 1), ((3,), 1), ((4,), None), ((0,), None), ((2, 0), 0), ((2, 3), None),
                           ((3, 4), 1), ((1, 2), 1), ((1, 3), 2), ((1, 4), None), ((3, 4, 0), 1), ((3, 0), None),
                           ((1, 2, 0), None)):
            self.same(count_slips(system, row, (0, 0)), slips)
        # the call below the answer must be above what stands, the one above it on the ladder
        self.same(count_slips(System((1, 1), 1, [((), 0, 1)]), (0,), (0, 0)), None)
        # foes do not slip, whatever they say
        foes = System((1, 1), 3, [((), 0, 1), ((1, 3), 0, 0), ((2, 0), 0, 3)], True)
        self.same(count_slips(foes, (1, 3, 0, 0), (0, 0)), 0)
        self.same(count_slips(foes, (2, 3), (0, 0)), 1)
        self.same(count_slips(foes, (2, 0, 3), (0, 0)), 1)

    def test_errors_in_their_order(self):
        system = System((2, 1), 2, [])
        for odd in NO_COUPLES:
            self.refused(BadCouple(), count_slips, system, None, odd)
        for odd in (*NO_SEQUENCE, (3,), (0, 0), (2, 1), (True,), (-1,)):
            self.refused(BadRow(), count_slips, system, odd, (0, 0))
            self.refused(BadRow(), told_with_slips, system, odd, None)
        for odd in (*NO_WHOLE, -1):
            self.refused(BadMost(), told_with_slips, system, (), odd)
        self.same(told_with_slips(system, (), 10 ** 9), ((0, 0), (1, 0)))


class Ended(Case):
    def test_all_ended_rows(self):
        for ladder in range(7):
            for foes in (False, True) if ladder < 5 else (False,):
                wanted = [row for row in told_rows(ladder, foes) if told_ended(row, foes)]
                self.same(list(ended_rows(ladder, foes)), wanted)
        self.same(list(ended_rows(2)), [(0,), (1, 0), (2, 0), (1, 2, 0)])
        self.same(len(list(ended_rows(6, True))), 1352)
        for odd in (*NO_WHOLE, -1, 7):
            self.refused(BadLadder(), ended_rows, odd)
            self.refused(BadLadder(), ended_rows, odd, True)

    def test_ends(self):
        seen = set()
        for sides, ladder, foes, words, system in drawn(952):
            for couple in couples(sides):
                reached = slipped_rows(words, ladder, foes, couple)
                ends = [(told_end(row, foes), slips) for row, slips in reached.items()
                        if told_ended(row, foes) and not (foes and any(row[1::2]))]
                for most in (0, 1, 2, 7):
                    wanted = tuple(sorted({end for end, slips in ends if slips <= most}))
                    self.same(ends_with_slips(system, couple, most), wanted)
                    self.same(ends_with_slips(system, listed(couple), most), wanted)
                for end in range(ladder + 1):
                    wanted = min((slips for found, slips in ends if found == end), default=None)
                    self.same(slips_to_end(system, couple, end), wanted)
                    seen.add(wanted)
        self.assertGreaterEqual(seen, {None, 0, 1, 2})

    def test_errors_in_their_order(self):
        for foes in (False, True):
            system = System((2, 1), 2, [], foes)
            for odd in NO_COUPLES:
                self.refused(BadCouple(), ends_with_slips, system, odd, None)
                self.refused(BadCouple(), slips_to_end, system, odd, None)
            for odd in (*NO_WHOLE, -1):
                self.refused(BadMost(), ends_with_slips, system, (1, 0), odd)
            for odd in (*NO_WHOLE, -1, 3):
                self.refused(BadEnd(), slips_to_end, system, (1, 0), odd)


class Clashes(Case):
    def test_clashes_and_room(self):
        seen = {None: 0, -1: 0, 0: 0, 1: 0}
        for sides, ladder, foes, words, system in drawn(953, 12):
            reached = {couple: slipped_rows(words, ladder, foes, couple) for couple in couples(sides)}
            rows = [row for row in told_rows(ladder, foes) if told_ended(row, foes)]
            first = {}
            for most in range(10):
                for row in rows:
                    left = [couple for couple in couples(sides) if reached[couple].get(row, 99) <= most]
                    if len(left) > 1:
                        first[most] = SlipClash(row, left[0], left[1])
                        break
                self.same(find_clash(system, most), first.get(most))
            room = min(first) - 1 if first else None
            self.same(slip_room(system), room)
            seen[room] = seen.get(room, 0) + 1
        self.assertGreater(min(seen.values()), 1, seen)

    def test_by_hand(self):
        system = System((2, 1), 3, [((), 0, 1), ((), 1, 3), ((1,), 0, 0), ((3,), 0, 0), ((2,), 0, 0)])
        self.same(find_clash(system, 0), None)
        self.same(find_clash(system, 1), SlipClash((2, 0), (0, 0), (1, 0)))
        self.same(slip_room(system), 0)
        self.same(slip_room(System((1, 1), 2, [((), 0, 1)])), None)
        self.same(slip_room(System((2, 1), 0, [((), 0, 0), ((), 1, 0)])), -1)
        self.same(find_clash(System((2, 1), 0, [((), 0, 0), ((), 1, 0)]), 0), SlipClash((0,), (0, 0), (1, 0)))

    def test_the_greatest_systems_answer(self):
        rng = random.Random(954)
        for sides, foes in (((3, 4), False), ((6, 2), False), ((2, 2), True)):
            words = random_words(rng, sides, 6, foes, 1.0, 0.7)
            system = System(sides, 6, answers_in(words), foes)
            self.assertIsNotNone(find_clash(system, 6))
            self.assertIs(type(slip_room(system)), int)

    def test_errors_and_equality(self):
        for odd in (*NO_WHOLE, -1):
            self.refused(BadMost(), find_clash, System((1, 1), 1, []), odd)
        clash = SlipClash((0,), (0, 0), (1, 0))
        self.assertTrue(clash == SlipClash((0,), (0, 0), (1, 0)))
        self.unequal_to_all(clash, [SlipClash((1, 0), (0, 0), (1, 0)), SlipClash((0,), (0, 1), (1, 0)),
                                    SlipClash((0,), (0, 0), (1, 1)), None, ((0,), (0, 0), (1, 0))])
        thing = [1]
        self.assertIs(SlipClash(1, 2, thing).other, thing)


if __name__ == "__main__":
    unittest.main()
