"""[4.7]: the least lots that are lost and the greatest that are won."""

import itertools
import random
import unittest

from risingcalls.cores import lost_cores, won_lots
from risingcalls.goals import Goals
from risingcalls.winning import is_won
from wonworlds import TRUTHS, drawn_goals, many_drawn
from worlds import ALL_SIDES, Case, lots_of


def told_pairs(goals):
    """{(east lot, west lot): whether the stand at which all begins with them is won}"""
    return {(east, west): is_won(goals, (east, west, 0, 0))
            for east, west in itertools.product(lots_of(goals.sides[0]), lots_of(goals.sides[1]))}


def within(pair, other):
    return set(pair[0]) <= set(other[0]) and set(pair[1]) <= set(other[1])


class Cores(Case):
    def held(self, goals):
        pairs = told_pairs(goals)
        lost = [pair for pair in pairs if not pairs[pair]]
        won = [pair for pair in pairs if pairs[pair]]
        cores, greatest = lost_cores(goals), won_lots(goals)
        self.same(cores, tuple(sorted(pair for pair in lost
                                      if not any(within(other, pair) for other in lost if other != pair))))
        self.same(greatest, tuple(sorted(pair for pair in won
                                         if not any(within(pair, other) for other in won if other != pair))))
        for pair in pairs:
            self.assertEqual(any(within(core, pair) for core in cores), not pairs[pair])
            self.assertEqual(any(within(pair, wide) for wide in greatest), pairs[pair])
        return (min(2, len(cores)), min(2, len(greatest)))

    def test_all_pairs_of_drawn_goals(self):
        seen = {}
        worlds = [((1, 1), 1), ((2, 1), 2), ((1, 3), 2), ((2, 2), 3), ((3, 3), 4), ((3, 2), 6), ((2, 4), 3)]
        for goals in many_drawn(461, worlds):
            counts = self.held(goals)
            seen[counts] = seen.get(counts, 0) + 1
        for counts in ((0, 1), (1, 0), (2, 2), (2, 1), (1, 2)):
            self.assertIn(counts, seen)

    def test_goals_of_the_greatest_sizes(self):
        rng = random.Random(462)
        for sides in ((3, 4), (6, 2), (2, 6), (6, 1), (1, 6)):
            self.held(drawn_goals(rng, sides, rng.choice((5, 6)), 0.8, rng.choice(TRUTHS)))

    def test_by_hand(self):
        # three kinds cannot be told over a ladder of 1, two can
        goals = Goals.all_wanted((3, 2), 1, (False, True))
        self.same(lost_cores(goals), (((0, 1, 2), (0,)), ((0, 1, 2), (1,))))
        self.same(won_lots(goals), (((0, 1), (0, 1)), ((0, 2), (0, 1)), ((1, 2), (0, 1))))

    def test_none_of_the_one_or_of_the_other(self):
        for sides in ALL_SIDES:
            lots = (tuple(range(sides[0])), tuple(range(sides[1])))
            self.same(lost_cores(Goals.all_wanted(sides, 2)), ())
            self.same(won_lots(Goals.all_wanted(sides, 2)), (lots,))
            barred = Goals(1, [[[-1]] * sides[1]] * sides[0])
            self.same(won_lots(barred), ())
            self.same(lost_cores(barred), tuple(((east,), (west,)) for east in lots[0] for west in lots[1]))


if __name__ == "__main__":
    unittest.main()
