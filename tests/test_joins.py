"""[5.8], [5.9]: joined systems, and systems behind a row."""

import itertools
import random
import unittest

from risingcalls.errors import BadBranch, BadLadder, BadRow, HasFoes
from risingcalls.heard import lots_at, rows_of
from risingcalls.joins import joined_systems, later_system
from risingcalls.rows import is_ended, speaker_at
from risingcalls.systems import System
from risingcalls.talks import Gap, Talk, play_talk
from risingcalls.tellers import tell_fault, tell_system
from worlds import NO_SEQUENCE, NO_WHOLE, Case, answers_in, listed, random_words, spoil, told_rows

ONE = System((1, 1), 0, [((), 0, 0)])
TWO = System((2, 1), 1, [((), 0, 0), ((), 1, 1), ((1,), 0, 0)])


def drawn_branches(rng, ladder, most=6):
    """Branches that can be joined, with systems of the ladders that are let, and how many kinds east has in all."""
    west = rng.choice((1, 1, 2, 3, 4))
    calls = rng.sample(range(1, ladder), rng.randint(1, ladder - 1))
    branches, east = [], 0
    for call in calls:
        asking = rng.randint(call + 1, ladder)
        kinds = rng.randint(1, 3)
        if east + kinds <= most and (east + kinds) * west <= 12:
            east += kinds
            own = rng.randint(0, ladder - asking)
            words = random_words(rng, (kinds, west), own, False, rng.choice((0.8, 1.0)), rng.choice((0.0, 0.6)))
            branches.append((call, asking, System((kinds, west), own, answers_in(words))))
    return branches, east, west


def raised(row, by):
    return tuple(word + by if word else 0 for word in row)


def told_join(ladder, branches, silent):
    """The answers of [5.8], written down as the point tells them."""
    answers, ahead = [], 0
    west = branches[0][2].sides[1]
    for call, asking, system in branches:
        answers += [((), ahead + kind, call) for kind in range(system.sides[0])]
        answers += [((call,), kind, asking) for kind in range(west)]
        for row, kind, word in system.answers:
            new = kind + ahead if len(row) % 2 == 0 else kind
            answers.append(((call, asking, *raised(row, asking)), new, raised([word], asking)[0]))
        ahead += system.sides[0]
    if silent:
        answers.append(((), ahead, 0))
    return System((ahead + silent, west), ladder, answers)


class Joined(Case):
    def worlds(self, seed, many=150):
        rng = random.Random(seed)
        found = 0
        while found < many:
            ladder = rng.randint(2, 6)
            branches, east, west = drawn_branches(rng, ladder)
            silent = rng.random() < 0.5
            if branches and east + silent <= 6 and (east + silent) * west <= 12:
                found += 1
                yield ladder, branches, silent

    def test_every_answer(self):
        sizes = set()
        for ladder, branches, silent in self.worlds(561):
            joined = joined_systems(ladder, branches, silent=silent)
            self.same(joined, told_join(ladder, branches, silent))
            self.same(joined_systems(ladder, [list(branch) for branch in branches], silent=silent), joined)
            if not silent:
                self.same(joined_systems(ladder, tuple(branches)), joined)
            sizes.add(len(branches))
        self.assertGreaterEqual(sizes, {1, 2, 3})

    def test_lots_are_the_branches_lots_renumbered(self):
        for ladder, branches, silent in self.worlds(562, 60):
            joined = joined_systems(ladder, branches, silent=silent)
            ahead = 0
            for call, asking, system in branches:
                for row in told_rows(system.ladder, False):
                    lots = lots_at(system, row)
                    self.same(lots_at(joined, (call, asking, *raised(row, asking))),
                              (tuple(ahead + kind for kind in lots[0]), lots[1]))
                ahead += system.sides[0]

    def test_later_system_behind_call_and_asking_is_the_branch_but_for_the_ladder(self):
        for ladder, branches, silent in self.worlds(563, 60):
            joined = joined_systems(ladder, branches, silent=silent)
            for call, asking, system in branches:
                self.same(later_system(joined, (call, asking)),
                          System(system.sides, ladder - asking, system.answers))

    def test_the_joined_system_tells_if_all_branches_do(self):
        for west in (1, 2):
            branches = [(1, 3, tell_system(3, 2, west)), (2, 4, tell_system(2, 1, west))]
            joined = joined_systems(6, branches, silent=True)
            self.same(tell_fault(joined), None)
            self.same(tell_fault(joined_systems(6, branches)), None)
            dumb = System((2, west), 1, [((), kind, 0) for kind in (0, 1)])
            self.same(tell_fault(joined_systems(6, [branches[0], (2, 4, dumb)]))[0], "knows")

    def test_six_branches_and_one(self):
        low = [(call, 6, ONE) for call in range(1, 6)]
        joined = joined_systems(6, low, silent=True)
        self.same(joined.sides, (6, 1))
        self.same(joined, told_join(6, low, True))
        # six calls, and one asking above each, do not go into a ladder of 6
        self.refused(BadBranch(5, "asking"), joined_systems, 6, low + [(6, 6, ONE)])
        self.same(joined_systems(2, [(1, 2, ONE)]).answers, (((), 0, 1), ((1,), 0, 2), ((1, 2), 0, 0)))

    def test_what_is_passed_in_is_not_kept(self):
        branches = [[1, 2, ONE], [3, 5, TWO]]
        joined = joined_systems(6, branches)
        self.same([branch[:2] for branch in branches], [[1, 2], [3, 5]])
        spoil(branches)
        self.same(joined, told_join(6, [(1, 2, ONE), (3, 5, TWO)], False))


class JoinErrors(Case):
    def wrong(self, index, label, branches, ladder=6, **named):
        self.refused(BadBranch(index, label), joined_systems, ladder, branches, **named)

    def test_ladder(self):
        for odd in (*NO_WHOLE, -1, 7):
            self.refused(BadLadder(), joined_systems, odd, None)

    def test_branches(self):
        for odd in (*NO_SEQUENCE, (), [], [None] * 7):
            self.wrong(0, "branches", odd)

    def test_each_label_of_a_branch(self):
        good = (1, 2, ONE)
        foes = System((1, 1), 0, [], True)
        for odd in (*NO_SEQUENCE, (), (1, 2), (1, 2, ONE, ONE), (1, 2, None), (1, 2, foes), (1, 2, "ab"), (0, 0, foes)):
            self.wrong(0, "branch", [odd, good])
            self.wrong(1, "branch", [good, odd])
        for odd in (*NO_WHOLE, 0, -1, 7):
            self.wrong(0, "call", [(odd, 0, ONE)])
            self.wrong(1, "call", [good, (odd, 0, ONE)])
        self.wrong(1, "call", [good, (1, 0, ONE)])
        self.wrong(2, "call", [good, (3, 4, ONE), (1, 4, ONE)])
        self.wrong(0, "call", [(1, 2, ONE)], 0)
        for odd in (*NO_WHOLE, 0, -1, 3, 7):
            self.wrong(0, "asking", [(3, odd, System((1, 1), 6, []))])
            self.wrong(1, "asking", [good, (3, odd, System((1, 2), 6, []))])
        self.wrong(1, "others", [good, (3, 4, System((1, 2), 6, []))])
        self.wrong(0, "ladder", [(3, 4, System((1, 1), 3, []))])
        self.wrong(1, "ladder", [good, (3, 6, System((1, 1), 1, []))])
        self.wrong(0, "ladder", [(1, 2, System((1, 1), 5, [])), None])

    def test_kinds(self):
        self.wrong(0, "kinds", [(1, 2, System((6, 1), 0, []))], silent=True)
        self.wrong(0, "kinds", [(1, 2, System((3, 1), 0, [])), (2, 3, System((4, 1), 0, []))])
        self.wrong(0, "kinds", [(1, 2, System((2, 4), 0, [])), (2, 3, System((2, 4), 0, []))])
        self.wrong(0, "kinds", [(1, 2, System((3, 4), 0, []))], silent=True)
        self.same(joined_systems(6, [(1, 2, System((3, 4), 0, []))]).sides, (3, 4))
        self.same(joined_systems(6, [(1, 2, System((2, 4), 0, []))], silent=True).sides, (3, 4))
        # a wrong branch is ahead of too many kinds
        self.wrong(1, "branch", [(1, 2, System((6, 1), 0, [])), None], silent=True)


class Later(Case):
    def systems(self, seed):
        rng = random.Random(seed)
        for sides, ladder in itertools.product([(1, 1), (2, 1), (2, 2), (3, 2), (3, 4), (1, 5)], (0, 1, 3, 4)):
            for share, low in itertools.product((0.8, 1.0), (0.0, 0.7, 0.9)):
                words = random_words(rng, sides, ladder, False, share, low)
                yield System(sides, ladder, answers_in(words))

    def test_every_answer_behind_every_row(self):
        seen = 0
        for system in self.systems(571):
            for row in rows_of(system):
                if is_ended(row, False) or speaker_at(row, False) != 0:
                    continue
                lots = lots_at(system, row)
                standing = max(row, default=0)
                answers = []
                for heard, kind, word in system.answers:
                    lot = lots[len(heard) % 2]
                    if heard[:len(row)] == row and kind in lot:
                        answers.append((raised(heard[len(row):], -standing), lot.index(kind),
                                        word - standing if word else 0))
                wanted = System((len(lots[0]), len(lots[1])), system.ladder - standing, answers)
                self.same(later_system(system, row), wanted)
                self.same(later_system(system, list(row)), wanted)
                self.talks(system, row, lots, standing)
                seen += len(row) > 0
        self.assertGreater(seen, 30)

    def talks(self, system, row, lots, standing):
        """The talks behind the row are the later system's, raised."""
        later = later_system(system, row)
        for east, west in itertools.product(range(len(lots[0])), range(len(lots[1]))):
            talk = play_talk(system, (lots[0][east], lots[1][west]))
            found = play_talk(later, (east, west))
            behind = row + raised(found.row, standing)
            if isinstance(found, Gap):
                self.same(talk, Gap(behind, lots[len(behind) % 2][found.kind]))
            else:
                self.same(talk, Talk(behind, found.end + standing))

    def test_behind_the_empty_row_the_system_itself(self):
        for system in self.systems(572):
            self.same(later_system(system, ()), system)
            self.assertIsNot(later_system(system, []), system)

    def test_errors(self):
        for row in (None, (), (9,)):
            self.refused(HasFoes(), later_system, System((1, 1), 1, [], True), row)
        system = System((2, 1), 3, [((), 0, 1), ((), 1, 0), ((1,), 0, 2), ((2,), 0, 3)])
        self.same(later_system(system, (1, 2)), System((1, 1), 1, []))
        for row in (*NO_SEQUENCE, (4,), (2, 1), (0, 0), (True, 2), (None,), (1, 2, 0, 0), (0,), (1, 0), (1,), (1, 2, 3),
                    (1, 2, 0), (1, 3), (2, 3)):
            self.refused(BadRow(), later_system, system, row)
            if isinstance(row, tuple):
                self.refused(BadRow(), later_system, system, listed(row))


if __name__ == "__main__":
    unittest.main()
