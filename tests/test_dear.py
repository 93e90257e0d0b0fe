"""[7.10] and the rest of [7.11]: the least cost that no couple must exceed."""

import random
import unittest

from costworlds import couples, drawn_costs, many_costs, told_cost
from risingcalls.costs import Costs, as_goals
from risingcalls.dear import Worst, worst_best, worst_fault
from risingcalls.deciding import Lost, decide_goals
from risingcalls.judging import table_fault
from risingcalls.prices import best_system
from risingcalls.systems import System
from wonworlds import every_system, needed_systems, told_table_fault, words_in
from worlds import ALL_SIDES, NO_SEQUENCE, NO_WHOLE, Case, answers_in, listed, random_words

TINY = [((1, 1), 0), ((1, 1), 2), ((1, 1), 3), ((2, 1), 1), ((2, 1), 2), ((1, 2), 1), ((1, 2), 2), ((2, 2), 1),
        ((3, 1), 1), ((1, 3), 2), ((3, 2), 1)]


def told_worst(costs, words):
    return max(told_cost(costs, words, couple) for couple in couples(costs.sides))


def has_less(costs, cost):
    """Whether each couple has an end that costs less."""
    return all(min(entry) < cost for line in costs.lines for entry in line)


class WorstBest(Case):
    def is_right(self, costs, worst):
        self.assertIs(type(worst), Worst)
        self.assertIs(type(worst.system), System)
        self.same((worst.system.sides, worst.system.ladder, worst.system.foes), (costs.sides, costs.ladder, False))
        self.assertLessEqual(told_worst(costs, words_in(worst.system)), worst.cost)
        if has_less(costs, worst.cost):
            self.assertIsNone(table_fault(as_goals(costs, worst.cost - 1), worst.table))
        else:
            self.assertIsNone(worst.table)
        self.assertIsNone(worst_fault(costs, worst))

    def test_no_system_of_all_has_a_lesser_cost(self):
        rng = random.Random(761)
        tables = 0
        for sides, ladder in TINY:
            systems = list(needed_systems(sides, ladder))
            for costs, _ in many_costs(rng, [(sides, ladder)], 9):
                worst = worst_best(costs)
                self.same(worst.cost, min(told_worst(costs, words) for words in systems))
                self.is_right(costs, worst)
                if worst.table is not None:
                    tables += 1
                    self.assertIsNone(told_table_fault(as_goals(costs, worst.cost - 1), worst.table))
        self.assertGreater(tables, 30)

    def test_needless_answers_make_no_cost_less(self):
        rng = random.Random(762)
        for sides, ladder in [((1, 1), 2), ((2, 1), 1), ((1, 2), 1), ((2, 2), 1)]:
            systems = list(every_system(sides, ladder))
            for costs, _ in many_costs(rng, [(sides, ladder)], 1):
                self.same(worst_best(costs).cost, min(told_worst(costs, words) for words in systems))

    def test_the_least_cost_at_which_the_goals_are_won(self):
        rng = random.Random(763)
        for sides in ALL_SIDES:
            for ladder in (0, 2, 6):
                costs = drawn_costs(rng, sides, ladder, 4)
                worst = worst_best(costs)
                self.is_right(costs, worst)
                for cost in range(6):
                    if has_less(costs, cost + 1):
                        self.same(isinstance(decide_goals(as_goals(costs, cost)), Lost), cost < worst.cost)

    def test_the_best_total_is_at_most_the_cost_times_the_weights(self):
        rng = random.Random(764)
        for costs, weights in many_costs(rng, TINY, 2):
            self.assertLessEqual(best_system(costs, weights).total, worst_best(costs).cost * weights.weight_sum)

    def test_the_least_and_the_greatest_costs(self):
        self.same(worst_best(Costs(2, [[[0, 0, 0]] * 3] * 4)).cost, 0)
        self.same(worst_best(Costs(2, [[[10 ** 6] * 3] * 3] * 4)).cost, 10 ** 6)
        self.same(worst_best(Costs(2, [[[10 ** 6] * 3] * 3] * 4)).table, None)
        # east cannot know what west wants
        worst = worst_best(Costs(0, [[[3], [7]]]))
        self.same((worst.cost, worst.table), (7, None))
        worst = worst_best(Costs(1, [[[0, 7]], [[0, 9]], [[7, 0]]]))
        self.same((worst.cost, worst.table), (0, None))
        worst = worst_best(Costs(1, [[[0, 7], [7, 0]]]))
        self.same(worst.cost, 7)
        self.assertIn(((0,), (0, 1), 0, 0), worst.table)


class Faults(Case):
    def test_each_label(self):
        costs = Costs(1, [[[0, 7], [7, 0]]])
        right = worst_best(costs)
        cost, system, table = right.cost, right.system, right.table
        for odd in (*NO_SEQUENCE, (cost, system, table), *[Worst(odd, None, None) for odd in NO_WHOLE]):
            self.same(worst_fault(costs, odd), "worst")
        dumb = System((1, 2), 1, [((), 0, 1), ((1,), 0, 0)])
        for odd in (None, (), dumb, System((1, 2), 0, [((), 0, 0)]), System((2, 1), 1, [((), 0, 0), ((), 1, 0)]),
                    System((1, 2), 1, [((), 0, 0)], True)):
            self.same(worst_fault(costs, Worst(-1, odd, 0)), "system")
        for odd in (6, 0, -1, -10 ** 9):
            self.same(worst_fault(costs, Worst(odd, system, 0)), "cost")
        for odd in (*NO_SEQUENCE, (), table[1:], table + (None,)):
            self.same(worst_fault(costs, Worst(cost, system, odd)), "table")
        for odd in (8, 10 ** 9):
            # a greater cost is not barred below it
            self.same(worst_fault(costs, Worst(odd, system, table)), "table")
            self.same(worst_fault(costs, Worst(odd, system, None)), "table")
        self.same(worst_fault(costs, Worst(cost, system, listed(table))), None)

    def test_none_where_no_table_is_due(self):
        costs = Costs(0, [[[3], [7]]])
        system = System((1, 2), 0, [((), 0, 0)])
        self.same(worst_fault(costs, Worst(7, system, None)), None)
        self.same(worst_fault(costs, Worst(7, system, ())), "table")
        self.same(worst_fault(costs, Worst(6, system, None)), "cost")
        self.same(worst_fault(costs, Worst(8, system, None)), "table")
        self.same(worst_fault(costs, Worst(8, system, (((0,), (0, 1), 0, 0),))), "table")

    def test_without_a_fault_the_cost_is_the_least(self):
        rng = random.Random(765)
        seen = {None: 0, "cost": 0, "table": 0}
        for costs, _ in many_costs(rng, [((1, 2), 2), ((2, 1), 2), ((2, 2), 2)], 3):
            right = worst_best(costs)
            words = random_words(rng, costs.sides, costs.ladder, False)
            for system in (right.system, System(costs.sides, costs.ladder, answers_in(words))):
                for cost in (right.cost, right.cost + 1, right.cost - 1, told_worst(costs, words)):
                    tables = [None, right.table]
                    if has_less(costs, cost):
                        result = decide_goals(as_goals(costs, cost - 1))
                        tables.append(result.stands if isinstance(result, Lost) else ())
                    for table in tables:
                        fault = worst_fault(costs, Worst(cost, system, table))
                        seen[fault] += 1
                        if fault is None:
                            self.same(cost, right.cost)
                            self.assertLessEqual(told_worst(costs, words_in(system)), cost)
        self.assertGreater(min(seen.values()), 20)

    def test_results_keep_their_arguments(self):
        thing = [1]
        worst = Worst(1, thing, thing)
        self.assertIs(worst.system, thing)
        self.assertIs(worst.table, thing)


if __name__ == "__main__":
    unittest.main()
