"""[4.1], [4.2], and stop_wins of [4.3]: stands."""

import itertools
import random
import unittest

from risingcalls.errors import BadPart, BadStand
from risingcalls.goals import Goals
from risingcalls.stands import check_stand, first_stand, stand_behind, stands_from, stop_wins
from test_goals import TRUTHS, some_goals
from worlds import ALL_SIDES, NO_SEQUENCE, NO_WHOLE, Case, listed, lots_of, spoil

GOALS = Goals.all_wanted((3, 2), 2)
STAND = ((0, 2), (1,), -1, 1)
NO_LOTS = (*NO_SEQUENCE, (), (3,), (1, 0), (0, 0), (True,), (0, None), (-1, 0), ("0",))


def all_stands(goals):
    for east, west in itertools.product(lots_of(goals.sides[0]), lots_of(goals.sides[1])):
        for end in range(-goals.ladder, goals.ladder + 1):
            for speaker in (0, 1):
                yield (east, west, end, speaker)


def told_reached(goals):
    """All stands that can be come to: first all lots, then by each call and part, until nothing is new."""
    found = {(tuple(range(goals.sides[0])), tuple(range(goals.sides[1])), 0, 0)}
    while True:
        more = set()
        for stand in found:
            lot = stand[stand[3]]
            for size in range(1, len(lot) + 1):
                for part in itertools.combinations(lot, size):
                    for call in range(stand[2] + 1, goals.ladder + 1):
                        lots = (part, stand[1]) if stand[3] == 0 else (stand[0], part)
                        more.add((*lots, call, 1 - stand[3]))
        if more <= found:
            return sorted(found)
        found |= more


class Stands(Case):
    def test_every_stand_is_taken(self):
        for ladder in (0, 1, 2):
            goals = Goals.all_wanted((3, 2), ladder)
            for stand in all_stands(goals):
                self.same(check_stand(goals, stand), stand)
                self.same(check_stand(goals, listed(stand)), stand)

    def test_the_first_stand(self):
        for sides in ALL_SIDES:
            for ladder in range(7):
                goals = Goals.all_wanted(sides, ladder)
                self.same(first_stand(goals), (tuple(range(sides[0])), tuple(range(sides[1])), 0, 0))

    def wrong(self, what, stand):
        self.refused(BadStand(what), check_stand, GOALS, stand)
        self.refused(BadStand(what), stop_wins, GOALS, stand, (0,))
        self.refused(BadStand(what), stop_wins, GOALS, stand, None)

    def test_each_wrong_part(self):
        for odd in (*NO_SEQUENCE, (), STAND[:3], (*STAND, 0), [[0], [0]]):
            self.wrong("stand", odd)
        for odd in NO_LOTS:
            self.wrong("east", (odd, (0,), 0, 0))
            self.wrong("west", ((0,), odd, 0, 0))
        self.wrong("west", ((2,), (2,), 0, 0))
        for odd in (*NO_WHOLE, -3, 3):
            self.wrong("end", ((0,), (0,), odd, 0))
        for odd in (*NO_WHOLE, -1, 2):
            self.wrong("speaker", ((0,), (0,), 0, odd))

    def test_of_two_faults_the_first_one_counts(self):
        self.wrong("east", ((), (), 9, 9))
        self.wrong("west", ((0,), (), 9, 9))
        self.wrong("end", ((0,), (0,), 9, 9))

    def test_the_ends_of_each_ladder(self):
        for ladder in range(7):
            goals = Goals.all_wanted((1, 1), ladder)
            for end in range(-8, 9):
                stand = ((0,), (0,), end, 1)
                if -ladder <= end <= ladder:
                    self.same(check_stand(goals, stand), stand)
                else:
                    self.refused(BadStand("end"), check_stand, goals, stand)

    def test_later_changes_have_no_effect(self):
        stand = listed(STAND)
        found = check_stand(GOALS, stand)
        self.same(stand, listed(STAND))
        spoil(stand)
        self.same(found, STAND)


class Parts(Case):
    def test_stand_behind_every_part_and_call(self):
        for stand in all_stands(GOALS):
            lot = stand[stand[3]]
            for part in [part for part in lots_of(3) if set(part) <= set(lot)]:
                for call in range(abs(stand[2]) + 1, 3):
                    wanted = (part, stand[1], call, 1) if stand[3] == 0 else (stand[0], part, call, 0)
                    self.same(stand_behind(stand, part, call), wanted)
                    self.same(stand_behind(listed(stand), list(part), call), wanted)

    def test_stand_behind_keeps_nothing_of_what_is_passed(self):
        stand, part = listed(STAND), [1]
        found = stand_behind(stand, part, 2)
        self.same((stand, part), (listed(STAND), [1]))
        spoil(stand)
        spoil(part)
        self.same(found, ((0, 2), (1,), 2, 0))

    def test_stands_from_small_goals(self):
        for sides in ((1, 1), (2, 1), (1, 2), (2, 2), (3, 2), (1, 4)):
            for ladder in (0, 1, 2, 3):
                goals = Goals.all_wanted(sides, ladder)
                self.same(list(stands_from(goals)), told_reached(goals))

    def test_stands_from_does_not_hang_on_what_is_wanted(self):
        rng = random.Random(81)
        for knows in TRUTHS:
            goals = some_goals(rng, (2, 2), 3, knows)
            self.same(list(stands_from(goals)), list(stands_from(Goals.all_wanted((2, 2), 3))))

    def test_stands_from_the_greatest_ladder(self):
        found = list(stands_from(Goals.all_wanted((3, 4), 6)))
        self.assertEqual(found, sorted(set(found)))
        self.assertIn(((0, 1, 2), (0, 1, 2, 3), 0, 0), found)
        # all of east's parts are behind each call, all of west's behind each second one
        self.assertEqual(len(found), 1 + 6 * 7 + 5 * 7 * 15 + 4 * 7 * 14)


class Stopping(Case):
    def wins(self, goals, stand, part):
        lots = (part, stand[1]) if stand[3] == 0 else (stand[0], part)
        if not all(stand[2] in goals.wanted[east][west] for east in lots[0] for west in lots[1]):
            return False
        return (not goals.knows[0] or len(lots[1]) == 1) and (not goals.knows[1] or len(lots[0]) == 1)

    def test_every_stand_and_part(self):
        rng = random.Random(82)
        counts = {True: 0, False: 0}
        for sides in ((1, 1), (2, 1), (1, 2), (2, 2), (3, 2)):
            for ladder in (0, 1, 2):
                for knows in TRUTHS:
                    goals = some_goals(rng, sides, ladder, knows)
                    for stand in all_stands(goals):
                        lot = stand[stand[3]]
                        for part in [part for part in lots_of(3) if set(part) <= set(lot)]:
                            wanted = self.wins(goals, stand, part)
                            self.same(stop_wins(goals, stand, part), wanted)
                            counts[wanted] += 1
        self.assertGreater(min(counts.values()), 1000)

    def test_lists_are_taken(self):
        goals = Goals(1, [[[-1], [0]], [[-1], [1]]], (False, True))
        self.same(stop_wins(goals, [[0, 1], [0], -1, 0], [1]), True)
        self.same(stop_wins(goals, [[0, 1], [0], -1, 0], [0, 1]), False)
        self.same(stop_wins(goals, [[1], [0, 1], -1, 1], [0]), True)
        self.same(stop_wins(goals, [[1], [0, 1], -1, 1], (0, 1)), False)

    def test_parts_that_are_none(self):
        for stand, lot in ((((0, 2), (0, 1), 0, 0), (0, 2)), (((0, 1, 2), (1,), 0, 1), (1,))):
            for part in itertools.chain.from_iterable(itertools.product(range(-1, 4), repeat=size) for size in range(4)):
                if part in lots_of(3) and set(part) <= set(lot):
                    self.same(stop_wins(GOALS, stand, part), True)
                else:
                    self.refused(BadPart(), stop_wins, GOALS, stand, part)
                    self.refused(BadPart(), stop_wins, GOALS, stand, list(part))
            for odd in (*NO_SEQUENCE, (True,), (None,), ("1",), (1.0,), (0, "2"), ((0,),)):
                self.refused(BadPart(), stop_wins, GOALS, stand, odd)


if __name__ == "__main__":
    unittest.main()
