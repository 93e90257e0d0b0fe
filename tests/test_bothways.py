"""[5.7]: systems that tell both sides' kinds to each other."""

import itertools
import random
import unittest

from risingcalls.bothways import both_system
from risingcalls.errors import BadEnds, BadKinds, BadLadder
from risingcalls.staircases import serves_both, staircase
from risingcalls.systems import System
from risingcalls.tellers import tell_fault
from test_counts import drawn_ends
from test_tellers import told_fault
from wonworlds import has_just_needed, words_in
from worlds import ALL_SIDES, NO_SEQUENCE, NO_WHOLE, Case


class BothWays(Case):
    def held(self, p, q, ladder, ends):
        system = both_system(p, q, ladder, ends=ends)
        self.assertIs(type(system), System)
        self.same((system.sides, system.ladder, system.foes), ((p, q), ladder, False))
        words = words_in(system)
        self.assertIsNone(told_fault(words, (p, q), ladder, ends, None, True))
        self.assertTrue(has_just_needed(words, (p, q), ladder))
        self.assertIsNone(tell_fault(system, ends=ends, both=True))

    def test_all_served_couples_with_and_without_ends(self):
        rng = random.Random(551)
        counts = {True: 0, False: 0}
        for ladder in range(7):
            for ends in (None, list(range(ladder + 1)), drawn_ends(rng, ladder), drawn_ends(rng, ladder), [ladder], []):
                for p, q in ALL_SIDES:
                    served = serves_both(ladder, p, q, ends=ends)
                    counts[served] += 1
                    if served:
                        self.held(p, q, ladder, ends)
                    else:
                        self.refused(BadKinds(), both_system, p, q, ladder, ends=ends)
        self.assertGreater(min(counts.values()), 100)

    def test_corners_and_what_is_beyond(self):
        for ladder in range(5):
            for p, q in staircase(ladder):
                if (p, q) in ALL_SIDES:
                    self.held(p, q, ladder, None)
                    self.refused(BadKinds(), both_system, p + 1, q, ladder)
                    self.refused(BadKinds(), both_system, p, q + 1, ladder)

    def test_by_hand(self):
        self.same(both_system(1, 1, 0).answers, (((), 0, 0),))
        self.same(both_system(1, 1, 2, ends=[2, 2]).ladder, 2)
        self.same(sorted(word for row, _, word in both_system(2, 1, 1).answers if row == ()), [0, 1])

    def test_errors_in_their_order(self):
        for odd in (*NO_WHOLE, -1, 7):
            self.refused(BadLadder(), both_system, 0, 0, odd, ends=0)
        for odd in (*[odd for odd in NO_SEQUENCE if odd is not None], [3], [-1], [None], [True]):
            self.refused(BadEnds(), both_system, 0, 0, 2, ends=odd)
        for odd in (*NO_WHOLE, 0, -1, 7):
            self.refused(BadKinds(), both_system, odd, 1, 6)
            self.refused(BadKinds(), both_system, 1, odd, 6)
        for p, q in itertools.product(range(1, 7), repeat=2):
            if p * q > 12:
                self.refused(BadKinds(), both_system, p, q, 6)

    def test_nothing_is_changed(self):
        ends = [2, 0, 2]
        both_system(1, 1, 2, ends=ends)
        self.same(ends, [2, 0, 2])


if __name__ == "__main__":
    unittest.main()
