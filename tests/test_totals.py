"""[7.7], [7.8]: totals of systems, and where they cost more than they must."""

import fractions
import random
import unittest

from costworlds import couples, drawn_costs, drawn_weights, told_cost, told_paid, told_price, told_total, told_word_price
from risingcalls.costs import Costs, Weights
from risingcalls.errors import HasFoes, HasGap, NotAlike
from risingcalls.prices import best_system
from risingcalls.systems import System
from risingcalls.totals import dearest_couple, excesses_of, is_best, mean_of, total_of, worst_of
from wonworlds import words_in
from worlds import Case, answers_in, lots_by_words, random_words, told_coming, told_ended, told_end, told_speaker

WORLDS = [((1, 1), 0), ((1, 1), 3), ((2, 1), 1), ((1, 2), 2), ((2, 2), 2), ((2, 2), 3), ((3, 2), 2), ((2, 3), 3),
          ((1, 3), 4), ((3, 4), 2), ((6, 2), 1)]


def drawn(seed, many=6):
    """(costs, weights, words of a system with an answer everywhere)."""
    rng = random.Random(seed)
    for sides, ladder in WORLDS:
        for at in range(many):
            costs = drawn_costs(rng, sides, ladder, rng.choice((1, 9, 10 ** 6)))
            weights = drawn_weights(rng, sides, rng.choice((0, 1, 3, 10 ** 6)))
            yield costs, weights, random_words(rng, sides, ladder, False, 1.0, rng.choice((0.0, 0.7)))
            if at % 3 == 0:
                yield costs, weights, words_in(best_system(costs, weights).system)


def made(costs, words):
    return System(costs.sides, costs.ladder, answers_in(words))


class Totals(Case):
    def test_talk_by_talk(self):
        for costs, weights, words in drawn(741):
            system = made(costs, words)
            paid = told_paid(costs, weights, words)
            self.same(total_of(costs, weights, system), sum(paid))
            self.same(dearest_couple(costs, weights, system), couples(costs.sides)[paid.index(max(paid))])
            self.same(worst_of(costs, system), max(told_cost(costs, words, couple) for couple in couples(costs.sides)))
            if weights.weight_sum == 0:
                self.same(mean_of(costs, weights, system), None)
            else:
                mean = fractions.Fraction(sum(paid), weights.weight_sum)
                self.same(mean_of(costs, weights, system), (mean.numerator, mean.denominator))

    def test_by_hand(self):
        costs = Costs(1, [[[4, 0]], [[2, 6]]])
        system = System((2, 1), 1, [((), 0, 0), ((), 1, 1), ((1,), 0, 0)])
        self.same(total_of(costs, Weights([[3], [2]]), system), 24)
        self.same(mean_of(costs, Weights([[3], [2]]), system), (24, 5))
        self.same(mean_of(costs, Weights([[3], [3]]), system), (5, 1))
        self.same(mean_of(costs, Weights([[0], [0]]), system), None)
        self.same(mean_of(Costs(0, [[[0]]]), Weights([[7]]), System((1, 1), 0, [((), 0, 0)])), (0, 1))
        self.same(dearest_couple(costs, Weights([[3], [2]]), system), (0, 0))
        self.same(dearest_couple(costs, Weights([[2], [2]]), system), (1, 0))
        self.same(dearest_couple(costs, Weights([[0], [0]]), system), (0, 0))
        self.same(worst_of(costs, system), 6)


class Excesses(Case):
    def test_row_by_row(self):
        counts = {True: 0, False: 0}
        for costs, weights, words in drawn(742):
            system = made(costs, words)
            known = {}

            def price(behind):
                return told_price(costs, weights, behind, known)

            wanted = []
            for row in told_coming(words, costs.sides, costs.ladder, False):
                if told_ended(row, False):
                    continue
                lots = lots_by_words(words, costs.sides, row, False)
                side = told_speaker(row, False)
                stand = (*lots, told_end(row, False), side)
                said = [(words[row, kind], kind) for kind in lots[side]]
                parts = [(word, tuple(kind for other, kind in said if other == word)) for word in {word for word, _ in said}]
                paid = sum(told_word_price(costs, weights, stand, part, word, price) for word, part in parts)
                wanted.append((row, paid - price(stand)))
            found = excesses_of(costs, weights, system)
            self.same(found, tuple(wanted))
            # what the point says of all systems
            least = best_system(costs, weights).total
            self.assertGreaterEqual(min(excess for _, excess in found), 0)
            self.same(sum(excess for _, excess in found), told_total(costs, weights, words) - least)
            self.same(is_best(costs, weights, system), told_total(costs, weights, words) == least)
            counts[is_best(costs, weights, system)] += 1
        self.assertGreater(min(counts.values()), 30)

    def test_the_example(self):
        costs, even = Costs(2, [[[5, 0, 5], [5, 5, 0]]]), Weights.even((1, 2))
        worse = System((1, 2), 2, [((), 0, 2), ((2,), 0, 0), ((2,), 1, 0)])
        self.same(excesses_of(costs, even, worse), (((), 5), ((2,), 0)))
        self.same(is_best(costs, even, worse), False)
        self.same(is_best(costs, even, best_system(costs, even).system), True)

    def test_needless_answers_do_no_harm(self):
        costs, even = Costs(1, [[[0, 1]]]), Weights.even((1, 1))
        system = System((1, 1), 1, [((), 0, 0), ((1,), 0, 0)])
        self.same(excesses_of(costs, even, system), (((), 0),))
        self.same((total_of(costs, even, system), is_best(costs, even, system)), (0, True))


class Errors(Case):
    def test_each_in_its_order(self):
        costs, even = Costs(1, [[[1, 2]], [[3, 4]]]), Weights.even((2, 1))
        gap = System((2, 1), 1, [((), 0, 0), ((), 1, 1)])
        for work in (total_of, mean_of, dearest_couple, excesses_of, is_best):
            self.refused(NotAlike("sides"), work, costs, Weights.even((1, 2)), System((1, 1), 2, [], True))
            self.refused(HasFoes(), work, costs, even, System((1, 1), 2, [], True))
            self.refused(NotAlike("sides"), work, costs, even, System((1, 2), 2, []))
            self.refused(NotAlike("ladder"), work, costs, even, System((2, 1), 2, []))
            self.refused(HasGap((1,), 0), work, costs, even, gap)
            self.refused(HasGap((), 1), work, costs, even, gap.without_answer((), 1))
        self.refused(HasFoes(), worst_of, costs, System((1, 1), 2, [], True))
        self.refused(NotAlike("sides"), worst_of, costs, System((1, 2), 2, []))
        self.refused(NotAlike("ladder"), worst_of, costs, System((2, 1), 2, []))
        self.refused(HasGap((1,), 0), worst_of, costs, gap)


if __name__ == "__main__":
    unittest.main()
