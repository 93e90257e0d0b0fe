"""[7.1] to [7.3]: costs, weights, and the goals that they make."""

import itertools
import random
import unittest

from costworlds import couples, drawn_costs, drawn_weights, many_costs
from risingcalls.costs import Costs, Weights, as_goals, cheapest_goals, floor_of
from risingcalls.errors import BadCosts, BadGoals, BadLot, BadSide, BadWeights, NotAlike
from risingcalls.goals import Goals
from worlds import ALL_SIDES, NO_SEQUENCE, NO_WHOLE, Case, listed, spoil

MOST = 10 ** 6
WORLDS = [((1, 1), 0), ((2, 1), 1), ((1, 2), 2), ((2, 2), 3), ((3, 2), 2), ((2, 6), 1), ((3, 4), 6)]


class MakingCosts(Case):
    def test_all_sides_and_ladders(self):
        rng = random.Random(701)
        for sides in ALL_SIDES:
            for ladder in range(7):
                costs = drawn_costs(rng, sides, ladder, MOST)
                self.same((costs.ladder, costs.sides), (ladder, sides))
                again = Costs(ladder, listed(costs.lines))
                self.same(again.lines, costs.lines)
                self.assertTrue(again == costs)

    def test_the_least_and_the_greatest_costs(self):
        self.same(Costs(1, [[[0, MOST]]]).lines, (((0, MOST),),))

    def test_ladder_then_sides_then_cost(self):
        for odd in (*NO_WHOLE, -1, 7):
            self.refused(BadCosts("ladder"), Costs, odd, None)
        for odd in (*NO_SEQUENCE, (), [()], [[], []], [[[0]], 0], [[[0]], [[0], [0]]], [[["x"]] * 7], [[["x"]]] * 7,
                    [[[0]] * 4] * 4, [[[0]] * 5] * 3):
            self.refused(BadCosts("sides"), Costs, 0, odd)
        for odd in (*NO_SEQUENCE, (), (0,), (0, 0, 0), (0, -1), (0, MOST + 1), (True, 0), (0, None), (0, "1"), (0, (0,))):
            self.refused(BadCosts("cost"), Costs, 1, [[odd]])
            self.refused(BadCosts("cost"), Costs, 1, [[(0, 0), (0, 0)], [(0, 0), odd]])

    def test_later_changes_have_no_effect(self):
        lines = [[[1, 2], [3, 4]]]
        costs = Costs(1, lines)
        self.same(lines, [[[1, 2], [3, 4]]])
        spoil(lines)
        self.same(costs.lines, (((1, 2), (3, 4)),))

    def test_equality(self):
        costs = Costs(1, [[[1, 2], [3, 4]]])
        self.assertTrue(costs == Costs(1, (((1, 2), (3, 4)),)))
        self.unequal_to_all(costs, [Costs(1, [[[1, 2], [3, 5]]]), Costs(1, [[[1, 2]], [[3, 4]]]), Costs(0, [[[1], [3]]]),
                                    None, (((1, 2), (3, 4)),), Weights([[1, 2]])])

    def test_cut(self):
        rng = random.Random(702)
        for sides, ladder in WORLDS:
            costs = drawn_costs(rng, sides, ladder)
            for less in range(ladder + 1):
                wanted = tuple(tuple(entry[:less + 1] for entry in line) for line in costs.lines)
                self.same((costs.cut(less).ladder, costs.cut(less).lines), (less, wanted))
            for odd in (*NO_WHOLE, -1, ladder + 1):
                self.refused(BadCosts("ladder"), costs.cut, odd)

    def test_added(self):
        costs = Costs(1, [[[3, 5]], [[9, 4]]])
        self.same(costs.added(0).lines, costs.lines)
        self.same(costs.added(-3).lines, (((0, 2),), ((6, 1),)))
        self.same(costs.added(MOST - 9).lines, (((MOST - 6, MOST - 4),), ((MOST, MOST - 5),)))
        self.same(costs.lines, (((3, 5),), ((9, 4),)))
        self.refused(BadCosts("cost"), costs.added, -4)
        self.refused(BadCosts("cost"), costs.added, MOST - 8)
        self.refused(BadCosts("cost"), costs.added, MOST)
        for odd in (*NO_WHOLE, MOST + 1, -MOST - 1):
            self.refused(BadCosts("amount"), costs.added, odd)
        self.same(Costs(0, [[[MOST]]]).added(-MOST).lines, (((0,),),))
        self.same(Costs(0, [[[0]]]).added(MOST).lines, (((MOST,),),))


class Turned(Case):
    def test_costs_and_weights_are_renumbered(self):
        rng = random.Random(703)
        for sides in ((1, 1), (2, 1), (1, 3), (2, 3), (3, 2)):
            for thing in (drawn_costs(rng, sides, 2), drawn_weights(rng, sides, 99)):
                for side in (0, 1):
                    for order in itertools.permutations(range(sides[side])):
                        found = thing.renumbered(side, list(order))
                        self.assertIs(type(found), type(thing))
                        for east, west in couples(sides):
                            old = (order[east], west) if side == 0 else (east, order[west])
                            self.same(found.lines[east][west], thing.lines[old[0]][old[1]])
                        self.same(found.sides, sides)

    def test_errors(self):
        rng = random.Random(704)
        for thing in (drawn_costs(rng, (2, 3), 1), drawn_weights(rng, (2, 3))):
            for odd in (*NO_WHOLE, -1, 2):
                self.refused(BadSide(), thing.renumbered, odd, None)
            for side, many in ((0, 2), (1, 3)):
                for odd in (*NO_SEQUENCE, (), (0,), (0, 0), (0, 1, 2, 3), (0, True, 2), list(range(many + 1)),
                            [0] * many, list(range(1, many + 1))):
                    self.refused(BadLot(side), thing.renumbered, side, odd)


class MakingWeights(Case):
    def test_all_sides(self):
        rng = random.Random(705)
        for sides in ALL_SIDES:
            weights = drawn_weights(rng, sides, MOST)
            self.same(weights.sides, sides)
            self.same(weights.weight_sum, sum(sum(line) for line in weights.lines))
            self.assertTrue(Weights(listed(weights.lines)) == weights)
            self.same(Weights(listed(weights.lines)).lines, weights.lines)
            self.same(Weights.even(list(sides)).lines, ((1,) * sides[1],) * sides[0])

    def test_sides_then_weight(self):
        for odd in (*NO_SEQUENCE, (), [()], [[], []], [[0], 0], [[0], [0, 0]], [["x"] * 7], [["x"]] * 7, [[0] * 4] * 4):
            self.refused(BadWeights("sides"), Weights, odd)
        for odd in (*NO_WHOLE, -1, MOST + 1):
            self.refused(BadWeights("weight"), Weights, [[0, odd]])
        for odd in (*NO_SEQUENCE, (), (1,), (1, 1, 1), (0, 1), (1, 7), (4, 4), (True, 1), (None, 1)):
            self.refused(BadWeights("sides"), Weights.even, odd)

    def test_later_changes_and_equality(self):
        lines = [[1, 2], [3, 4]]
        weights = Weights(lines)
        spoil(lines)
        self.same(weights.lines, ((1, 2), (3, 4)))
        self.assertTrue(weights == Weights(((1, 2), (3, 4))))
        self.unequal_to_all(weights, [Weights([[1, 2], [3, 5]]), Weights([[1, 2]]), None, ((1, 2), (3, 4)),
                                      Costs(1, [[[1, 2]], [[3, 4]]])])

    def test_plus(self):
        one, other = Weights([[1, 2], [3, 4]]), Weights([[10, 0], [0, MOST - 4]])
        self.same(one.plus(other).lines, ((11, 2), (3, MOST)))
        self.same((one.lines, other.lines), (((1, 2), (3, 4)), ((10, 0), (0, MOST - 4))))
        self.refused(BadWeights("weight"), one.plus, Weights([[0, 0], [0, MOST - 3]]))
        self.refused(NotAlike("sides"), one.plus, Weights([[MOST, MOST]]))
        self.refused(NotAlike("sides"), Weights([[MOST], [1]]).plus, Weights([[MOST, MOST]]))

    def test_times(self):
        weights = Weights([[1, 1000], [0, 7]])
        self.same(weights.times(0).lines, ((0, 0), (0, 0)))
        self.same(weights.times(1000).lines, ((1000, MOST), (0, 7000)))
        self.refused(BadWeights("weight"), Weights([[1001]]).times, 1000)
        for odd in (*NO_WHOLE, -1, 1001):
            self.refused(BadWeights("size"), Weights([[MOST]]).times, odd)


class GoalsOfCosts(Case):
    def test_floor_and_cheapest_goals(self):
        rng = random.Random(706)
        for costs, weights in many_costs(rng, WORLDS):
            floor = 0
            goals = cheapest_goals(costs, weights)
            self.assertIs(type(goals), Goals)
            self.same((goals.sides, goals.ladder, goals.knows), (costs.sides, costs.ladder, (False, False)))
            for east, west in couples(costs.sides):
                entry, weight = costs.lines[east][west], weights.lines[east][west]
                floor += weight * min(entry)
                ends = tuple(end for end, cost in enumerate(entry) if weight == 0 or cost == min(entry))
                self.same(goals.wanted[east][west], ends)
            self.same(floor_of(costs, weights), floor)

    def test_as_goals(self):
        rng = random.Random(707)
        for costs, _ in many_costs(rng, WORLDS, 2):
            entries = [entry for line in costs.lines for entry in line]
            for cost in sorted({0, *[cost for entry in entries for cost in entry][:9], MOST, MOST + 1, 10 ** 9}):
                if cost < max(min(entry) for entry in entries):
                    self.refused(BadGoals("wanted"), as_goals, costs, cost)
                    continue
                goals = as_goals(costs, cost)
                self.same((goals.sides, goals.ladder, goals.knows), (costs.sides, costs.ladder, (False, False)))
                for east, west in couples(costs.sides):
                    ends = tuple(end for end, one in enumerate(costs.lines[east][west]) if one <= cost)
                    self.same(goals.wanted[east][west], ends)
        self.refused(BadGoals("wanted"), as_goals, Costs(0, [[[0]]]), -1)

    def test_sides_that_are_unlike(self):
        for work in (floor_of, cheapest_goals):
            self.refused(NotAlike("sides"), work, Costs(0, [[[0], [0]]]), Weights([[1], [1]]))


if __name__ == "__main__":
    unittest.main()
