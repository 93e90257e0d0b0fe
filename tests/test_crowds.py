"""[5.5]: where a system with more kinds than can be told fails."""

import itertools
import random
import unittest

from risingcalls.counts import told_split, told_within
from risingcalls.crowds import Crowd, crowd_of
from risingcalls.errors import BadEnds, BadKind, BadWords, HasFoes
from risingcalls.systems import System
from risingcalls.talks import Gap
from test_counts import drawn_ends
from test_tellers import told_fault
from worlds import NO_SEQUENCE, NO_WHOLE, Case, answers_in, lots_by_words, random_words, told_words


def told_crowd(words, sides, ladder, kind, ends, most):
    """The walk of [5.5], step by step."""
    if sides[0] <= told_within(ladder, ends=ends, words=most):
        return None
    row, lot, left = (), tuple(range(sides[0])), most
    while True:
        if most is not None and left == 0:
            return Crowd(row, lot, "words")
        standing = max(row, default=0)
        if len(row) % 2 == 0:
            mute = [east for east in lot if (row, east) not in words]
            if mute:
                return Gap(row, mute[0])
            split = dict(zip(told_words(row, ladder), told_split(ladder, ends=ends, words=left, end=standing)))
            for word in split:
                part = tuple(east for east in lot if words[row, east] == word)
                if len(part) > split[word]:
                    lot = part
                    break
        elif (row, kind) not in words:
            return Gap(row, kind)
        else:
            word = words[row, kind]
        row += (word,)
        left = None if left is None else left - 1
        if word == 0:
            return Crowd(row, lot, "told" if ends is None or max(row) in ends else "end")


class Crowds(Case):
    def test_drawn_systems(self):
        rng = random.Random(531)
        seen = {}
        for _ in range(2500):
            sides = rng.choice([(2, 1), (3, 1), (4, 2), (6, 2), (5, 1), (3, 3), (6, 1)])
            ladder = rng.randint(0, 5)
            words = random_words(rng, sides, ladder, False, rng.choice((0.85, 1.0, 1.0)), rng.choice((0.0, 0.7)))
            ends = drawn_ends(rng, ladder)
            most = rng.choice((None, *range(1, ladder + 3)))
            kind = rng.randrange(sides[1])
            system = System(sides, ladder, answers_in(words))
            wanted = told_crowd(words, sides, ladder, kind, ends, most)
            found = crowd_of(system, kind, ends=ends, words=most)
            self.same(found, wanted)
            if kind == 0:
                self.same(crowd_of(system, ends=ends, words=most), wanted)
            self.fails(words, sides, ladder, ends, most, found)
            label = found.label if isinstance(found, Crowd) else type(found)
            seen[label] = seen.get(label, 0) + 1
        self.assertEqual(set(seen), {type(None), Gap, "words", "end", "told"})
        self.assertGreater(min(seen.values()), 50)

    def fails(self, words, sides, ladder, ends, most, found):
        """A Crowd and a Gap show where some talk of the system breaks a bound or is not told."""
        if found is None:
            self.assertLessEqual(sides[0], told_within(ladder, ends=ends, words=most))
            return
        self.assertIsNotNone(told_fault(words, sides, ladder, ends, most, False))
        lots = lots_by_words(words, sides, found.row, False)
        self.assertTrue(lots[0] and lots[1])
        if isinstance(found, Gap):
            self.assertIn(found.kind, lots[len(found.row) % 2])
            self.assertNotIn((found.row, found.kind), words)
            return
        self.same(found.lot, lots[0])
        if found.label == "words":
            self.same(len(found.row), most)
            self.assertNotEqual(found.row[-1], 0)
        elif found.label == "end":
            self.assertNotIn(max(found.row), ends)
        else:
            self.assertGreaterEqual(len(found.lot), 2)

    def test_by_hand(self):
        crowded = System((2, 1), 1, [((), 0, 0), ((), 1, 0)])
        self.same(crowd_of(crowded), None)
        self.same(crowd_of(crowded, words=1), Crowd((0,), (0, 1), "told"))
        self.same(crowd_of(crowded, ends=[1]), Crowd((0,), (0, 1), "end"))
        self.same(crowd_of(crowded, ends=[]), Crowd((0,), (0, 1), "end"))
        calls = System((2, 1), 1, [((), 0, 1), ((), 1, 1)])
        self.same(crowd_of(calls, words=1), Crowd((1,), (0, 1), "words"))
        self.same(crowd_of(calls, ends=[1]), Gap((1,), 0))
        self.same(crowd_of(calls.without_answer((), 0), ends=[1]), Gap((), 0))
        self.same(crowd_of(System((3, 1), 0, [((), kind, 0) for kind in range(3)])), Crowd((0,), (0, 1, 2), "told"))

    def test_each_kind_of_west_is_walked_with(self):
        answers = [((), kind, 1) for kind in range(5)]
        answers += [((1,), 0, 0), ((1,), 1, 2)]
        answers += [((1, 2), kind, word) for kind, word in enumerate((3, 3, 0, 0, 0))]
        system = System((5, 2), 3, answers)
        self.same(crowd_of(system, 0, words=3), Crowd((1, 0), (0, 1, 2, 3, 4), "told"))
        self.same(crowd_of(system, 0, ends=(0, 2)), Crowd((1, 0), (0, 1, 2, 3, 4), "end"))
        self.same(crowd_of(system, 1, words=3), Crowd((1, 2, 0), (2, 3, 4), "told"))
        self.same(crowd_of(system, 1, words=2), Crowd((1, 2), (0, 1, 2, 3, 4), "words"))
        self.same(crowd_of(system.without_answer((1,), 1), 1, words=3), Gap((1,), 1))
        self.same(crowd_of(system.without_answer((1, 2), 1), 1, words=3), Gap((1, 2), 1))

    def test_no_more_kinds_than_can_be_told(self):
        for kinds, ladder in itertools.product(range(1, 7), range(7)):
            system = System((kinds, 1), ladder, [])
            found = crowd_of(system)
            self.same(found, None if kinds <= told_within(ladder) else Gap((), 0))

    def test_errors_in_their_order(self):
        foes = System((2, 2), 1, [], True)
        plain = System((2, 2), 1, [])
        self.refused(HasFoes(), crowd_of, foes, None, ends=0, words=0)
        for odd in (*NO_WHOLE, -1, 2):
            self.refused(BadKind(), crowd_of, plain, odd, ends=0, words=0)
        self.refused(BadKind(), crowd_of, System((3, 2), 1, []), 2)
        self.refused(BadKind(), crowd_of, System((1, 2), 1, []), 2)
        self.same(crowd_of(System((1, 2), 1, []), 1), None)
        for odd in (*[odd for odd in NO_SEQUENCE if odd is not None], [2], [-1], [None], [True]):
            self.refused(BadEnds(), crowd_of, plain, ends=odd, words=0)
        for odd in (*[odd for odd in NO_WHOLE if odd is not None], 0, -1):
            self.refused(BadWords(), crowd_of, plain, 1, words=odd)

    def test_equality(self):
        crowd = Crowd((0,), (0, 1), "told")
        self.assertTrue(crowd == Crowd((0,), (0, 1), "told"))
        self.unequal_to_all(crowd, [Crowd((1,), (0, 1), "told"), Crowd((0,), (0,), "told"), Crowd((0,), (0, 1), "end"),
                                    None, ((0,), (0, 1), "told"), Gap((0,), (0, 1))])
        thing = [1]
        self.assertIs(Crowd(1, thing, 2).lot, thing)


if __name__ == "__main__":
    unittest.main()
