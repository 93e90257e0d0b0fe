"""[7.9]: mixtures of systems."""

import fractions
import random
import unittest

from costworlds import drawn_costs, drawn_weights, told_total
from risingcalls.costs import Costs, Weights
from risingcalls.errors import BadMixture, NotAlike
from risingcalls.mixtures import Mixture, mixed_total, purest_of
from risingcalls.prices import best_system
from risingcalls.systems import System
from worlds import NO_SEQUENCE, NO_WHOLE, Case, answers_in, random_words

STOPS = System((1, 1), 1, [((), 0, 0)])
CALLS = System((1, 1), 1, [((), 0, 1), ((1,), 0, 0)])
GAP = System((1, 1), 1, [((), 0, 1)])


class Making(Case):
    def test_attributes(self):
        shares, systems = [0, 1000, 3], [STOPS, CALLS, STOPS]
        mixture = Mixture(shares, systems)
        shares.append(1)
        systems.pop()
        self.same(mixture.shares, (0, 1000, 3))
        self.assertEqual(mixture.systems, (STOPS, CALLS, STOPS))
        self.assertIs(type(mixture.systems), tuple)
        self.same(Mixture((1,), (STOPS,)).shares, (1,))
        self.same(Mixture([1] * 6, [STOPS] * 6).shares, (1,) * 6)

    def test_many(self):
        for odd in (*NO_SEQUENCE, ()):
            self.refused(BadMixture(0, "many"), Mixture, [1], odd)
        for odd in (*NO_SEQUENCE, (), (1, 1)):
            self.refused(BadMixture(0, "many"), Mixture, odd, [STOPS])
        self.refused(BadMixture(0, "many"), Mixture, [None] * 7, [None] * 7)
        self.refused(BadMixture(0, "many"), Mixture, [], [])

    def test_system_then_share_entry_by_entry(self):
        unlike = [None, (), GAP, System((1, 1), 1, [((), 0, 0)], True), System((1, 1), 0, [((), 0, 0)]),
                  System((1, 2), 1, [((), 0, 0)]), System((1, 1), 1, [])]
        for odd in unlike:
            self.refused(BadMixture(1, "system"), Mixture, [1, None, None], [STOPS, odd, None])
            self.refused(BadMixture(0, "share"), Mixture, [None, 1], [STOPS, odd])
        for odd in (None, GAP, System((1, 1), 1, [((), 0, 0)], True)):
            self.refused(BadMixture(0, "system"), Mixture, [None], [odd])
        for odd in (*NO_WHOLE, -1, 1001):
            self.refused(BadMixture(2, "share"), Mixture, [0, 0, odd], [STOPS, CALLS, STOPS])

    def test_shares(self):
        self.refused(BadMixture(0, "shares"), Mixture, [0], [STOPS])
        self.refused(BadMixture(0, "shares"), Mixture, [0, 0], [STOPS, CALLS])


class Mixed(Case):
    def test_totals_and_the_purest(self):
        rng = random.Random(751)
        for sides, ladder in [((1, 1), 0), ((1, 1), 2), ((2, 2), 2), ((3, 1), 3), ((2, 3), 2)]:
            for _ in range(20):
                costs, weights = drawn_costs(rng, sides, ladder), drawn_weights(rng, sides)
                words = [random_words(rng, sides, ladder, False) for _ in range(rng.randint(1, 6))]
                shares = [rng.choice((0, 1, 7, 1000)) for _ in words]
                if sum(shares) == 0:
                    shares[-1] = 2
                mixture = Mixture(shares, [System(sides, ladder, answers_in(one)) for one in words])
                totals = [told_total(costs, weights, one) for one in words]
                mixed = fractions.Fraction(sum(share * total for share, total in zip(shares, totals)), sum(shares))
                self.same(mixed_total(costs, weights, mixture), (mixed.numerator, mixed.denominator))
                least = min(total for share, total in zip(shares, totals) if share)
                purest = [at for at, share in enumerate(shares) if share and totals[at] == least][0]
                self.same(purest_of(costs, weights, mixture), purest)
                self.assertLessEqual(totals[purest], mixed)
                self.assertLessEqual(best_system(costs, weights).total, mixed)

    def test_by_hand(self):
        costs, even = Costs(1, [[[4, 2]]]), Weights.even((1, 1))
        self.same(mixed_total(costs, even, Mixture([1, 1], [STOPS, CALLS])), (3, 1))
        self.same(mixed_total(costs, even, Mixture([2, 1], [STOPS, CALLS])), (10, 3))
        self.same(purest_of(costs, even, Mixture([2, 1], [STOPS, CALLS])), 1)
        self.same(purest_of(costs, even, Mixture([2, 0], [STOPS, CALLS])), 0)
        self.same(purest_of(costs, even, Mixture([0, 1, 1], [CALLS, CALLS, CALLS])), 1)
        self.same(mixed_total(costs, Weights([[0]]), Mixture([2, 1], [STOPS, CALLS])), (0, 1))

    def test_errors_in_their_order(self):
        mixture = Mixture([1], [STOPS])
        for work in (mixed_total, purest_of):
            self.refused(NotAlike("sides"), work, Costs(1, [[[1, 2]]]), Weights.even((1, 2)), mixture)
            self.refused(NotAlike("sides"), work, Costs(0, [[[1], [1]]]), Weights.even((1, 2)), mixture)
            self.refused(NotAlike("ladder"), work, Costs(0, [[[1]]]), Weights.even((1, 1)), mixture)


if __name__ == "__main__":
    unittest.main()
