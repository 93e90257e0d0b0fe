"""Costs and weights for the tests, and what systems cost, told apart from the program."""

import itertools

from risingcalls.costs import Costs, Weights
from wonworlds import parts_of_parting, stands_behind_word, told_partings
from worlds import told_end, told_talk


def drawn_costs(rng, sides, ladder, most=9):
    return Costs(ladder, [[[rng.randint(0, most) for _ in range(ladder + 1)] for _ in range(sides[1])]
                          for _ in range(sides[0])])


def drawn_weights(rng, sides, most=3):
    return Weights([[rng.randint(0, most) for _ in range(sides[1])] for _ in range(sides[0])])


def many_costs(rng, worlds, many=4):
    """(costs, weights) for each (sides, ladder), with few and with many unlike costs."""
    for sides, ladder in worlds:
        for most in (1, 3, 9, 10 ** 6):
            for _ in range(many):
                yield drawn_costs(rng, sides, ladder, most), drawn_weights(rng, sides, rng.choice((1, 3, 10 ** 6)))


def couples(sides):
    return list(itertools.product(range(sides[0]), range(sides[1])))


def told_cost(costs, words, couple):
    """What a couple pays in a system without a gap."""
    row = told_talk(words, costs.ladder, False, couple, ())[1]
    return costs.lines[couple[0]][couple[1]][told_end(row, False)]


def told_paid(costs, weights, words):
    return [weights.lines[couple[0]][couple[1]] * told_cost(costs, words, couple) for couple in couples(costs.sides)]


def told_total(costs, weights, words):
    return sum(told_paid(costs, weights, words))


def told_word_price(costs, weights, stand, part, word, price):
    """What a word costs for a part, if price(stand) is what a stand behind costs."""
    if word:
        return price(stands_behind_word(costs, stand, part, word, 0)[0])
    lots = (part, stand[1]) if stand[3] == 0 else (stand[0], part)
    return sum(weights.lines[east][west] * costs.lines[east][west][stand[2]] for east in lots[0] for west in lots[1])


def told_price(costs, weights, stand, known=None):
    """The price of a stand: the least sum over all partings, one by one."""
    known = {} if known is None else known
    if stand not in known:
        known[stand] = least_told_sum(costs, weights, stand, lambda behind: told_price(costs, weights, behind, known))
    return known[stand]


def least_told_sum(costs, weights, stand, price):
    sums = []
    for parting in told_partings(costs, stand):
        sums.append(sum(told_word_price(costs, weights, stand, part, word, price)
                        for word, part in parts_of_parting(stand, parting)))
    return min(sums)
