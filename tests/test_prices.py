"""[7.4] to [7.6] and [7.12]: prices, best systems, tables of prices and best parts."""

import random
import unittest

from costworlds import (
    couples, drawn_costs, drawn_weights, least_told_sum, many_costs, told_paid, told_price, told_total, told_word_price,
)
from risingcalls.costs import Costs, Weights, cheapest_goals, floor_of
from risingcalls.errors import BadStand, NotAlike
from risingcalls.prices import Best, best_parts, best_system, price_fault, price_of
from risingcalls.stands import first_stand, stands_from
from risingcalls.systems import System
from risingcalls.winning import is_won
from test_stands import NO_LOTS, told_reached
from wonworlds import (
    every_system, has_just_needed, needed_systems, parts_of_parting, stands_behind_word, told_first, told_partings,
    told_stands, words_in,
)
from worlds import ALL_SIDES, NO_SEQUENCE, NO_WHOLE, Case, listed, lots_of

TINY = [((1, 1), 0), ((1, 1), 2), ((1, 1), 3), ((2, 1), 1), ((2, 1), 2), ((1, 2), 1), ((1, 2), 2), ((2, 2), 1),
        ((3, 1), 1), ((1, 3), 2), ((3, 2), 1)]
SMALL = TINY + [((2, 2), 2), ((2, 2), 3), ((3, 2), 2), ((2, 3), 2), ((1, 2), 4), ((2, 1), 5), ((1, 1), 6), ((4, 1), 2)]


class Prices(Case):
    def test_every_stand_by_all_partings(self):
        rng = random.Random(711)
        for costs, weights in many_costs(rng, SMALL, 2):
            known = {}
            for stand in told_stands(costs, 0):
                wanted = told_price(costs, weights, stand, known)
                self.same(price_of(costs, weights, stand), wanted)
                if stand[2] == 1:
                    self.same(price_of(costs, weights, listed(stand)), wanted)

    def test_errors_in_their_order(self):
        costs, weights = Costs(2, [[[1, 2, 3]] * 2] * 3), Weights.even((3, 2))
        self.refused(NotAlike("sides"), price_of, costs, Weights.even((2, 3)), None)
        for odd in (*NO_SEQUENCE, (), ((0,), (0,), 0), ((0,), (0,), 0, 0, 0)):
            self.refused(BadStand("stand"), price_of, costs, weights, odd)
        for odd in NO_LOTS:
            self.refused(BadStand("east"), price_of, costs, weights, (odd, (), 9, 9))
            self.refused(BadStand("west"), price_of, costs, weights, ((0,), odd, 9, 9))
        for odd in (*NO_WHOLE, -1, -2, 3):
            self.refused(BadStand("end"), price_of, costs, weights, ((0,), (0,), odd, 9))
        for odd in (*NO_WHOLE, -1, 2):
            self.refused(BadStand("speaker"), price_of, costs, weights, ((0,), (0,), 0, odd))


class BestSystems(Case):
    def is_right(self, costs, weights, best):
        self.assertIs(type(best), Best)
        system = best.system
        self.assertIs(type(system), System)
        self.same((system.sides, system.ladder, system.foes), (costs.sides, costs.ladder, False))
        self.same(told_total(costs, weights, words_in(system)), best.total)
        self.same(tuple(stand for stand, _ in best.table), tuple(told_reached(costs)))

    def test_no_system_of_all_has_a_lesser_total(self):
        rng = random.Random(712)
        for sides, ladder in TINY:
            systems = list(needed_systems(sides, ladder))
            for costs, weights in many_costs(rng, [(sides, ladder)], 2):
                best = best_system(costs, weights)
                self.same(best.total, min(told_total(costs, weights, words) for words in systems))
                self.is_right(costs, weights, best)
                known = {}
                for stand, price in best.table:
                    self.same(price, told_price(costs, weights, stand, known))

    def test_needless_answers_make_no_total_less(self):
        rng = random.Random(713)
        for sides, ladder in [((1, 1), 2), ((2, 1), 1), ((1, 2), 1), ((2, 2), 1)]:
            systems = list(every_system(sides, ladder))
            for costs, weights in many_costs(rng, [(sides, ladder)], 1):
                wanted = min(told_total(costs, weights, words) for words in systems)
                self.same(best_system(costs, weights).total, wanted)

    def test_all_sides_and_the_greatest_ladder(self):
        rng = random.Random(714)
        for sides in ALL_SIDES:
            for ladder in (0, 1, 6):
                costs, weights = drawn_costs(rng, sides, ladder, 5), drawn_weights(rng, sides)
                best = best_system(costs, weights)
                self.same(best.total, price_of(costs, weights, first_stand(costs)))
                self.same(told_total(costs, weights, words_in(best.system)), best.total)
                self.same(tuple(stand for stand, _ in best.table), tuple(stands_from(costs)))
                self.assertIsNone(price_fault(costs, weights, best.table))

    def test_the_stands_of_the_table_by_the_words_of_the_point(self):
        for sides, ladder in [((2, 2), 4), ((3, 1), 3), ((1, 3), 3), ((2, 3), 1), ((2, 1), 0)]:
            costs = Costs(ladder, [[[0] * (ladder + 1)] * sides[1]] * sides[0])
            easts, wests = lots_of(sides[0]), lots_of(sides[1])
            wanted = {(max(easts, key=len), max(wests, key=len), 0, 0)}
            wanted |= {(east, max(wests, key=len), end, 1) for east in easts for end in range(1, ladder + 1)}
            wanted |= {(east, west, end, 0) for east in easts for west in wests for end in range(2, ladder + 1)}
            wanted |= {(east, west, end, 1) for east in easts for west in wests for end in range(3, ladder + 1)}
            table = best_system(costs, Weights.even(sides)).table
            self.same(table, tuple((stand, 0) for stand in sorted(wanted)))

    def test_the_least_and_the_greatest_costs_and_weights(self):
        most = 10 ** 6
        costs = Costs(1, [[[most, most]] * 4] * 3)
        self.same(best_system(costs, Weights([[most] * 4] * 3)).total, 12 * most * most)
        self.same(best_system(costs, Weights([[0] * 4] * 3)).total, 0)
        self.same(best_system(Costs(0, [[[0]]]), Weights([[most]])).total, 0)

    def test_the_example(self):
        costs, even = Costs(2, [[[5, 0, 5], [5, 5, 0]]]), Weights.even((1, 2))
        best = best_system(costs, even)
        self.same(best.total, 0)
        self.same(best.system.answers, (((), 0, 1), ((1,), 0, 0), ((1,), 1, 2), ((1, 2), 0, 0)))
        self.same(best_parts(costs, even), ((1, (0,)),))
        self.same(best_system(costs.cut(1), even).total, 5)

    def test_unlike_sides_and_results(self):
        costs = Costs(1, [[[1, 2]] * 2])
        for work in (best_system, best_parts):
            self.refused(NotAlike("sides"), work, costs, Weights.even((2, 1)))
        self.refused(NotAlike("sides"), price_fault, costs, Weights.even((2, 1)), None)
        thing = [1]
        best = Best(1, thing, thing)
        self.assertIs(best.system, thing)
        self.assertIs(best.table, thing)
        self.same(best.total, 1)

    def test_nothing_is_changed_and_what_is_returned_is_new(self):
        rng = random.Random(715)
        costs, weights = drawn_costs(rng, (2, 2), 2), drawn_weights(rng, (2, 2))
        before = (costs.lines, weights.lines)
        self.assertIsNot(best_system(costs, weights), best_system(costs, weights))
        self.same((costs.lines, weights.lines), before)


class Laws(Case):
    """[7.11], what it says of totals."""

    def test_floor_and_cheapest_goals(self):
        rng = random.Random(716)
        counts = {True: 0, False: 0}
        for costs, weights in many_costs(rng, SMALL, 6):
            total, floor = best_system(costs, weights).total, floor_of(costs, weights)
            self.assertLessEqual(floor, total)
            goals = cheapest_goals(costs, weights)
            self.same(floor == total, is_won(goals, told_first(goals)))
            counts[floor == total] += 1
        self.assertGreater(min(counts.values()), 50)

    def test_changed_costs_and_weights(self):
        rng = random.Random(717)
        for sides, ladder in SMALL:
            for _ in range(5):
                costs, one, other = drawn_costs(rng, sides, ladder), drawn_weights(rng, sides), drawn_weights(rng, sides)
                total = best_system(costs, one).total
                more = best_system(costs, other).total
                self.assertGreaterEqual(best_system(costs, one.plus(other)).total, total + more)
                self.same(best_system(costs, one.times(7)).total, 7 * total)
                self.same(best_system(costs.added(4), one).total, total + 4 * one.weight_sum)
                for less in range(ladder + 1):
                    self.assertGreaterEqual(best_system(costs.cut(less), one).total, total)
                for side in (0, 1):
                    order = rng.sample(range(sides[side]), sides[side])
                    turned = (costs.renumbered(side, order), one.renumbered(side, order))
                    self.same(best_system(*turned).total, total)


class Tables(Case):
    def told_fault(self, costs, weights, table):
        """The fault of a table of right pairs, each stand once."""
        numbers = dict(table)
        if told_first(costs) not in numbers:
            return "first"
        for stand in numbers:
            for part in [part for part in lots_of(6) if set(part) <= set(stand[stand[3]])]:
                for call in range(stand[2] + 1, costs.ladder + 1):
                    if stands_behind_word(costs, stand, part, call, 0)[0] not in numbers:
                        return "missing"
        for stand, number in numbers.items():
            if number != least_told_sum(costs, weights, stand, lambda behind: numbers[behind]):
                return "price"
        return None

    def test_tables_that_are_spoilt(self):
        rng = random.Random(721)
        seen = {None: 0, "first": 0, "missing": 0, "price": 0}
        for costs, weights in many_costs(rng, [((1, 1), 2), ((2, 1), 2), ((1, 2), 3), ((2, 2), 1), ((2, 2), 3)], 3):
            every = [(stand, told_price(costs, weights, stand)) for stand in told_stands(costs, 0)]
            best = list(best_system(costs, weights).table)
            for table in (best, every):
                for change in ("none", "mixed", "gone", "number", "numbers", "both", "more"):
                    spoilt = list(table)
                    if change in ("gone", "both"):
                        spoilt.pop(rng.randrange(len(spoilt)))
                    if change in ("number", "both"):
                        at = rng.randrange(len(spoilt))
                        spoilt[at] = (spoilt[at][0], spoilt[at][1] + rng.choice((-1, 1)))
                    if change == "numbers":
                        spoilt = [(stand, number + 1) for stand, number in spoilt]
                    if change == "more":
                        spoilt += rng.sample([pair for pair in every if pair not in table], min(1, len(every) - len(table)))
                    if change != "none":
                        rng.shuffle(spoilt)
                    wanted = self.told_fault(costs, weights, spoilt)
                    self.same(price_fault(costs, weights, spoilt), wanted)
                    self.same(price_fault(costs, weights, listed(spoilt)), wanted)
                    seen[wanted] += 1
                    if wanted is None:
                        self.assertTrue(set(spoilt) <= set(every))
        self.assertGreater(min(seen.values()), 20)

    def test_stands_beside_those_that_can_come(self):
        # lesser lots with a stand at which nothing was called: the table is closed, though not whole
        costs, weights = Costs(2, [[[1, 2, 3]] * 2] * 2), Weights.even((2, 2))
        table = dict(best_system(costs, weights).table)
        waiting = [((0,), (1,), 0, 1), ((0, 1), (0,), 1, 0)]
        while waiting:
            stand = waiting.pop()
            table[stand] = told_price(costs, weights, stand)
            waiting += [stands_behind_word(costs, stand, part, call, 0)[0] for call in range(stand[2] + 1, 3)
                        for part in lots_of(2) if set(part) <= set(stand[stand[3]])]
        self.assertIsNone(price_fault(costs, weights, list(table.items())))
        self.same(self.told_fault(costs, weights, list(table.items())), None)

    def test_tables_that_are_none(self):
        costs, weights = Costs(1, [[[1, 2]]]), Weights.even((1, 1))
        first, behind = ((0,), (0,), 0, 0), ((0,), (0,), 1, 1)
        self.assertIsNone(price_fault(costs, weights, [(first, 1), (behind, 2)]))
        odds = [[(first, 1), odd] for odd in (*NO_SEQUENCE, (), (first,), (first, 1, 1), (None, 1), (((0,), (0,), -1, 0), 1),
                                              (((0,), (0,), 2, 0), 1), (((1,), (0,), 0, 0), 1), (first, 1), (first, 2))]
        odds += [[(first, odd)] for odd in NO_WHOLE] + [[(first, 1), [[[0], [0], 0, 0], 1]]]
        for odd in (*NO_SEQUENCE, *odds):
            self.same(price_fault(costs, weights, odd), "table")
        # the first label counts
        self.same(price_fault(costs, weights, [(behind, 7), (behind, 7)]), "table")
        self.same(price_fault(costs, weights, [(behind, 7)]), "first")
        self.same(price_fault(costs, weights, []), "first")
        self.same(price_fault(costs, weights, [(first, 7)]), "missing")
        self.same(price_fault(costs, weights, [(first, 7), (behind, 2)]), "price")
        self.same(price_fault(costs, weights, [(first, 1), (behind, 3)]), "price")


class Parts(Case):
    def test_what_all_best_systems_say_first(self):
        rng = random.Random(731)
        for sides, ladder in TINY:
            systems = list(needed_systems(sides, ladder))
            for costs, weights in many_costs(rng, [(sides, ladder)], 2):
                totals = [told_total(costs, weights, words) for words in systems]
                wanted = set()
                for words, total in zip(systems, totals):
                    if total == min(totals):
                        said = [words[(), kind] for kind in range(sides[0])]
                        wanted |= {(word, tuple(kind for kind in range(sides[0]) if said[kind] == word)) for word in said}
                self.same(best_parts(costs, weights), tuple(sorted(wanted)))

    def test_larger_worlds_by_all_partings(self):
        rng = random.Random(732)
        for costs, weights in many_costs(rng, [((4, 1), 3), ((3, 3), 2), ((2, 2), 4)], 2):
            known = {}
            first = told_first(costs)

            def price(behind):
                return told_price(costs, weights, behind, known)

            wanted = set()
            for parting in told_partings(costs, first):
                parts = parts_of_parting(first, parting)
                if sum(told_word_price(costs, weights, first, part, word, price) for word, part in parts) == price(first):
                    wanted |= set(parts)
            self.same(best_parts(costs, weights), tuple(sorted(wanted)))

    def test_by_hand(self):
        even = Weights.even((2, 1))
        self.same(best_parts(Costs(0, [[[3]], [[4]]]), even), ((0, (0, 1)),))
        self.same(best_parts(Costs(1, [[[1, 0]], [[0, 1]]]), even), ((0, (1,)), (1, (0,))))
        self.same(best_parts(Costs(1, [[[1, 1]], [[0, 1]]]), even), ((0, (0, 1)), (0, (1,)), (1, (0,))))
        self.same(told_paid(Costs(1, [[[1, 0]], [[0, 1]]]), even, {((), 0): 0, ((), 1): 0}), [1, 0])
        self.same(couples((2, 1)), [(0, 0), (1, 0)])


if __name__ == "__main__":
    unittest.main()
