"""[10.9]: changes made one by one."""

import random
import unittest

from risingcalls.changes import system_after
from risingcalls.errors import BadChange
from risingcalls.systems import System
from worlds import (
    NO_SEQUENCE, NO_WHOLE, Case, answers_in, listed, partner_rows, random_words, spoil, told_speaker, told_words,
)

WORLDS = [((1, 1), 0, False), ((2, 1), 2, False), ((2, 3), 2, False), ((1, 1), 2, True), ((2, 2), 2, True)]


def drawn_change(rng, sides, ladder, foes):
    row = rng.choice(partner_rows(ladder, foes)[:12])
    kind = rng.randrange(sides[told_speaker(row, foes)])
    if rng.random() < 0.4:
        return ("strike", row, kind)
    return ("answer", row, kind, rng.choice(told_words(row, ladder)))


def told_after(words, changes):
    words = dict(words)
    for change in changes:
        if change[0] == "strike":
            words.pop((change[1], change[2]), None)
        else:
            words[change[1], change[2]] = change[3]
    return words


class Changes(Case):
    def test_one_by_one(self):
        rng = random.Random(971)
        for sides, ladder, foes in WORLDS:
            for _ in range(40):
                words = random_words(rng, sides, ladder, foes, 0.5)
                system = System(sides, ladder, answers_in(words), foes)
                changes = [drawn_change(rng, sides, ladder, foes) for _ in range(rng.randint(0, 9))]
                wanted = System(sides, ladder, answers_in(told_after(words, changes)), foes)
                self.assertTrue(system_after(system, changes) == wanted)
                self.assertTrue(system_after(system, listed(changes)) == wanted)
                self.assertTrue(system == System(sides, ladder, answers_in(words), foes))

    def test_the_last_one_of_a_row_and_kind_holds(self):
        system = System((1, 1), 2, [((), 0, 1)])
        put, other, strike = ("answer", (), 0, 2), ("answer", (), 0, 0), ("strike", (), 0)
        self.same(system_after(system, [put, other]).answers, (((), 0, 0),))
        self.same(system_after(system, [put, strike]).answers, ())
        self.same(system_after(system, [strike, put]).answers, (((), 0, 2),))
        self.same(system_after(system, [strike, strike]).answers, ())
        self.same(system_after(system, ()).answers, (((), 0, 1),))
        # rows that cannot come are let, as in all systems
        self.same(system_after(system, [("answer", (2,), 0, 0)]).answers, (((), 0, 1), ((2,), 0, 0)))

    def wrong(self, what, change, foes=False):
        system = System((1, 2), 2, [], foes)
        self.refused(BadChange(0, what), system_after, system, [change])
        self.refused(BadChange(2, what), system_after, system, [("strike", (), 0), ("answer", (), 0, 0), change, None])

    def test_each_label(self):
        for odd in NO_SEQUENCE:
            self.refused(BadChange(0, "sequence"), system_after, System((1, 1), 1, []), odd)
        for odd in (*NO_SEQUENCE, (), ("answer",), ("answer", (), 0), ("strike", (), 0, 0), ("answer", (), 0, 0, 0),
                    ("strike", ()), ("put", (), 0, 0), ("Answer", (), 0, 0), (None, (), 0), (True, (), 0, 0),
                    (["answer"], (), 0, 0), "strike", ("strike",)):
            self.wrong("change", odd)
        for odd in (*NO_SEQUENCE, (3,), (0,), (2, 1), (1, 0), (True,), (None,), (-1,)):
            self.wrong("row", ("answer", odd, None, None))
            self.wrong("row", ("strike", odd, None))
        for odd in ((1,), (0, 0), (1, 2, 0), (1, 0, 0, 0)):
            self.wrong("row", ("answer", odd, None, None), True)
            self.wrong("row", ("strike", odd, None), True)
        for odd in (*NO_WHOLE, -1, 1):
            self.wrong("kind", ("answer", (), odd, None))
            self.wrong("kind", ("strike", (), odd))
        self.wrong("kind", ("strike", (1,), 2))
        for odd in (*NO_WHOLE, -1, 3):
            self.wrong("word", ("answer", (), 0, odd))
        for odd in (1, 2):
            self.wrong("word", ("answer", (2,), 1, odd))
            self.wrong("word", ("answer", (0, 2), 1, odd), True)

    def test_what_is_passed_is_not_kept(self):
        changes = [["answer", [], 0, 1], ["strike", [1], 0]]
        found = system_after(System((1, 1), 1, [((1,), 0, 0)]), changes)
        self.same(changes, [["answer", [], 0, 1], ["strike", [1], 0]])
        spoil(changes)
        self.same(found.answers, (((), 0, 1),))


if __name__ == "__main__":
    unittest.main()
