"""[6.7]: systems with foes among silent foes."""

import itertools
import random
import unittest

from risingcalls.decidingfoes import decide_foes
from risingcalls.deciding import Won
from risingcalls.errors import NotAlike
from risingcalls.judging import system_fault
from risingcalls.silence import plain_part, with_silence
from risingcalls.systems import System
from risingcalls.talks import Gap, play_talk
from wonworlds import many_drawn
from worlds import Case, answers_in, worlds

SIDES = [(1, 1), (2, 1), (2, 2), (1, 3)]


class Silence(Case):
    def test_plain_part_of_every_answer(self):
        for sides, ladder, foes, words in worlds(581, (0, 1, 2, 3), SIDES, foes=(True,)):
            system = System(sides, ladder, answers_in(words), True)
            wanted = [(row[::2], kind, word) for row, kind, word in system.answers if not any(row[1::2])]
            found = plain_part(system)
            self.same(found, System(sides, ladder, wanted))
            for couple in itertools.product(range(sides[0]), range(sides[1])):
                talk, plain = play_talk(system, couple), play_talk(found, couple)
                self.assertIs(type(talk), type(plain))
                self.same(plain.row, talk.row[::2])
                if isinstance(talk, Gap):
                    self.same(plain.kind, talk.kind)
                else:
                    self.same(plain.end, talk.end)

    def test_with_silence_and_back(self):
        for sides, ladder, foes, words in worlds(582, (0, 1, 2, 3, 5), SIDES, foes=(False,)):
            system = System(sides, ladder, answers_in(words))
            wanted = [(tuple(itertools.chain.from_iterable((word, 0) for word in row)), kind, word)
                      for row, kind, word in system.answers]
            found = with_silence(system)
            self.same(found, System(sides, ladder, wanted, True))
            self.same(plain_part(found), system)

    def test_by_hand(self):
        foes = System((2, 1), 3, [((), 0, 1), ((), 1, 0), ((0, 1), 0, 2), ((1, 0), 0, 2), ((1, 2), 0, 3),
                                  ((1, 0, 2, 0), 0, 0), ((1, 2, 0, 3), 0, 0)], True)
        plain = System((2, 1), 3, [((), 0, 1), ((), 1, 0), ((1,), 0, 2), ((1, 2), 0, 0)])
        self.same(plain_part(foes), plain)
        self.same(with_silence(plain).answers,
                  (((), 0, 1), ((), 1, 0), ((1, 0), 0, 2), ((1, 0, 2, 0), 0, 0)))

    def test_the_plain_part_of_a_system_that_wins_wins(self):
        seen = 0
        for goals in many_drawn(583, [((2, 1), 2), ((1, 2), 3), ((2, 2), 2), ((1, 1), 4)], shares=(0.7, 0.9)):
            for leap in range(goals.ladder + 1):
                result = decide_foes(goals, leap)
                if isinstance(result, Won):
                    seen += 1
                    self.assertIsNone(system_fault(goals, plain_part(result.system)))
        self.assertGreater(seen, 20)

    def test_systems_of_the_other_sort(self):
        rng = random.Random(584)
        for ladder in range(3):
            answers = [((), 0, rng.randint(0, ladder))]
            self.refused(NotAlike("foes"), plain_part, System((1, 1), ladder, answers))
            self.refused(NotAlike("foes"), with_silence, System((1, 1), ladder, answers, True))


if __name__ == "__main__":
    unittest.main()
