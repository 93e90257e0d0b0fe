"""[8.3], [8.5] to [8.7]: needless answers, and what is known when."""

import random
import unittest

from risingcalls.alike import are_alike
from risingcalls.errors import BadCouple, BadFoe, BadKind, BadRow, BadSide, HasGap
from risingcalls.heard import gaps_of
from risingcalls.knowing import (
    couples_at, does_tell, first_apart, first_told, knows_at, needless_answers, trimmed_system,
)
from risingcalls.systems import System
from risingcalls.turned import renumbered_system
from test_alike import couples
from worlds import (
    NO_SEQUENCE, NO_WHOLE, Case, answers_in, in_order, listed, lots_by_words, told_coming, told_ended, told_foe_words,
    told_rows, told_speaker, told_talk, told_talks, worlds,
)

SIDES = [(1, 1), (2, 1), (1, 2), (2, 2), (3, 2)]


def drawn(seed, ladders=(0, 1, 2, 3)):
    for sides, ladder, foes, words in worlds(seed, ladders, SIDES):
        yield sides, ladder, foes, words, System(sides, ladder, answers_in(words), foes)


class Needed(Case):
    def test_the_answers_that_talks_use(self):
        for sides, ladder, foes, words, system in drawn(811):
            used = set()
            for couple in couples(sides):
                for _, talk in told_talks(words, ladder, foes, couple):
                    for at in range(len(talk[1])):
                        row = talk[1][:at]
                        if told_speaker(row, foes) is not None:
                            used.add((row, couple[told_speaker(row, foes)]))
            needed = {place: words[place] for place in used}
            needless = {place: words[place] for place in words if place not in used}
            self.same(needless_answers(system), in_order(needless))
            trimmed = trimmed_system(system)
            self.assertTrue(trimmed == System(sides, ladder, answers_in(needed), foes))
            self.assertTrue(are_alike(system, trimmed))
            self.same(needless_answers(trimmed), ())


class AtRows(Case):
    def test_couples_and_what_each_side_knows(self):
        for sides, ladder, foes, words, system in drawn(812, (0, 1, 2)):
            for row in told_rows(ladder, foes):
                lots = lots_by_words(words, sides, row, foes)
                wanted = tuple((east, west) for east in lots[0] for west in lots[1])
                self.same(couples_at(system, row), wanted)
                self.same(couples_at(system, list(row)), wanted)
                for side in (0, 1):
                    for kind in range(sides[side]):
                        known = lots[1 - side] if kind in lots[side] else ()
                        self.same(knows_at(system, row, side, kind), known)

    def test_errors_in_their_order(self):
        system = System((2, 3), 2, [])
        for odd in (*NO_SEQUENCE, (3,), (0, 1), (2, 1), (True,), (None,), (-1,)):
            self.refused(BadRow(), couples_at, system, odd)
            self.refused(BadRow(), knows_at, system, odd, 0, None)
        for odd in (*NO_WHOLE, -1, 2):
            self.refused(BadSide(), knows_at, system, None, odd, None)
        for side, kinds in ((0, 2), (1, 3)):
            for odd in (*NO_WHOLE, -1, kinds):
                self.refused(BadKind(), knows_at, system, (), side, odd)
        self.same(couples_at(System((1, 1), 1, [], True), (1,)), ())
        self.same(knows_at(System((1, 2), 1, [((), 0, 1)], True), (1,), 0, 0), (0, 1))


class Told(Case):
    def test_the_first_time(self):
        seen = set()
        for sides, ladder, foes, words, system in drawn(813):
            for couple in couples(sides):
                for foe_words in told_foe_words(ladder) if foes else [()]:
                    talk = told_talk(words, ladder, foes, couple, foe_words)
                    for side in (0, 1):
                        if talk[0] == "foe":
                            self.refused(BadFoe(talk[1]), first_told, system, couple, side, foe_words)
                        elif talk[0] == "gap":
                            self.refused(HasGap(talk[1], talk[2]), first_told, system, couple, side, foe_words)
                        else:
                            lots = [lots_by_words(words, sides, talk[1][:at], foes) for at in range(len(talk[1]) + 1)]
                            told = [len(pair[side]) == 1 for pair in lots]
                            # once told it stays told
                            self.same(told, sorted(told))
                            wanted = told.index(True) if True in told else None
                            self.same(first_told(system, couple, side, foe_words), wanted)
                            self.same(first_told(system, listed(couple), side, listed(foe_words)), wanted)
                            seen.add(wanted)
        self.assertGreaterEqual(seen, {None, 0, 1, 2, 3})

    def test_errors_in_their_order(self):
        system = System((1, 2), 1, [((), 0, 1)], True)
        for odd in (*NO_SEQUENCE, (), (0,), (1, 0), (0, 2), (0, True), (0, 0, 0)):
            self.refused(BadCouple(), first_told, system, odd, None, None)
        for odd in (*NO_WHOLE, -1, 2):
            self.refused(BadSide(), first_told, system, (0, 0), odd, None)
        for odd in NO_SEQUENCE:
            self.refused(BadFoe(0), first_told, system, (0, 0), 0, odd)
        self.refused(BadFoe(0), first_told, system, (0, 0), 0, (1,))
        # east has one kind, so it was told before the gap; the gap is told all the same
        self.refused(HasGap((1, 0), 1), first_told, system, (0, 1), 0)
        plain = System((1, 1), 0, [((), 0, 0)])
        for odd in NO_SEQUENCE:
            self.refused(BadFoe(0), first_told, plain, (0, 0), 0, odd)
        self.same(first_told(plain, (0, 0), 0, (9,)), 0)

    def test_does_tell(self):
        seen = {True: 0, False: 0, None: 0}
        for sides, ladder, foes, words, system in drawn(814):
            gaps = gaps_of(system)
            for side in (0, 1):
                if gaps:
                    self.refused(HasGap(gaps[0].row, gaps[0].kind), does_tell, system, side)
                    seen[None] += 1
                    continue
                ended = [row for row in told_coming(words, sides, ladder, foes) if told_ended(row, foes)]
                wanted = all(len(lots_by_words(words, sides, row, foes)[side]) == 1 for row in ended)
                self.same(does_tell(system, side), wanted)
                seen[wanted] += 1
            for odd in (*NO_WHOLE, -1, 2):
                self.refused(BadSide(), does_tell, system, odd)
        self.assertGreater(min(seen.values()), 20)


class Apart(Case):
    def test_the_first_row(self):
        rng = random.Random(815)
        seen = {True: 0, False: 0}
        for sides, ladder, foes, words, system in drawn(816):
            for side in (0, 1):
                for kind in range(sides[side]):
                    for other in range(sides[side]):
                        wanted = None
                        for row in told_coming(words, sides, ladder, foes):
                            lots = lots_by_words(words, sides, row, foes)
                            if told_speaker(row, foes) == side and kind in lots[side] and other in lots[side]:
                                if words.get((row, kind)) != words.get((row, other)):
                                    wanted = row
                                    break
                        self.same(first_apart(system, side, kind, other), wanted)
                        seen[wanted is None] += 1
                        if rng.random() < 0.3:
                            order = list(range(sides[side]))
                            order[kind], order[other] = other, kind
                            exchanged = renumbered_system(system, side, order)
                            self.same(are_alike(system, exchanged), wanted is None)
                        if kind == other:
                            self.assertIsNone(wanted)
                        elif not gaps_of(system) and does_tell(system, side):
                            self.assertIsNotNone(wanted)
        self.assertGreater(min(seen.values()), 50)

    def test_by_hand(self):
        system = System((2, 2), 2, [((), 0, 1), ((), 1, 1), ((1,), 0, 2), ((1, 2), 0, 0)])
        self.same(first_apart(system, 0, 0, 1), (1, 2))
        self.same(first_apart(system, 1, 1, 0), (1,))
        self.same(first_apart(system, 1, 1, 1), None)
        self.same(first_apart(system.without_answer((1, 2), 0), 0, 0, 1), None)

    def test_errors_in_their_order(self):
        system = System((2, 3), 1, [])
        for odd in (*NO_WHOLE, -1, 2):
            self.refused(BadSide(), first_apart, system, odd, None, None)
        for side, kinds in ((0, 2), (1, 3)):
            for odd in (*NO_WHOLE, -1, kinds):
                self.refused(BadKind(), first_apart, system, side, odd, 0)
                self.refused(BadKind(), first_apart, system, side, 0, odd)


if __name__ == "__main__":
    unittest.main()
