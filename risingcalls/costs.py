"""Costs of the ends, weights of the couples, and the goals that they make."""

from risingcalls.basics import EAST, LADDER_MOST, WEST, are_sides, check_side, check_side_order, couples_of
from risingcalls.basics import is_sequence, is_whole
from risingcalls.errors import BadCosts, BadWeights, NotAlike
from risingcalls.goals import Goals, renumbered_lines, sides_of_lines

COST_MOST = 10 ** 6
TIMES_MOST = 1000


def is_entry(thing, ladder):
    """Return whether a value has a cost for each end from 0 to the ladder."""
    return (
        is_sequence(thing)
        and len(thing) == ladder + 1
        and all([is_whole(cost, 0, COST_MOST) for cost in thing])
    )


class Costs:
    """What each end costs each couple."""

    def __init__(self, ladder, lines):
        if not is_whole(ladder, 0, LADDER_MOST):
            raise BadCosts("ladder")
        sides = sides_of_lines(lines)
        if not are_sides(sides):
            raise BadCosts("sides")
        if not all([is_entry(entry, ladder) for line in lines for entry in line]):
            raise BadCosts("cost")
        self.ladder = ladder
        self.lines = tuple([tuple([tuple(entry) for entry in line]) for line in lines])
        self.sides = sides

    def __eq__(self, other):
        return isinstance(other, Costs) and self.ladder == other.ladder and self.lines == other.lines

    def cut(self, ladder):
        """Return the costs of the ends 0 to a ladder that is not above the own one."""
        if not is_whole(ladder, 0, self.ladder):
            raise BadCosts("ladder")
        return Costs(ladder, [[entry[:ladder + 1] for entry in line] for line in self.lines])

    def added(self, amount):
        """Return the costs with the amount added to each."""
        if not is_whole(amount, -COST_MOST, COST_MOST):
            raise BadCosts("amount")
        return Costs(self.ladder, [[[cost + amount for cost in entry] for entry in line] for line in self.lines])

    def renumbered(self, side, order):
        """Return the costs in which the side's kind order[k] is called k."""
        turned = check_side_order(order, self.sides[check_side(side)], side)
        return Costs(self.ladder, renumbered_lines(self.lines, side, turned))


class Weights:
    """How much each couple counts."""

    def __init__(self, lines):
        sides = sides_of_lines(lines)
        if not are_sides(sides):
            raise BadWeights("sides")
        if not all([is_whole(weight, 0, COST_MOST) for line in lines for weight in line]):
            raise BadWeights("weight")
        self.lines = tuple([tuple(line) for line in lines])
        self.sides = sides

    def __eq__(self, other):
        return isinstance(other, Weights) and self.lines == other.lines

    @property
    def weight_sum(self):
        """Return the sum of all weights."""
        return sum([sum(line) for line in self.lines])

    @staticmethod
    def even(sides):
        """Return weights that are all 1."""
        if not are_sides(sides):
            raise BadWeights("sides")
        return Weights([[1] * sides[WEST]] * sides[EAST])

    def plus(self, other):
        """Return the weights added couple by couple."""
        check_weights(self, other)
        sums = []
        for line, others in zip(self.lines, other.lines):
            sums.append([one + more for one, more in zip(line, others)])
        return Weights(sums)

    def times(self, size):
        """Return the weights multiplied by the size."""
        if not is_whole(size, 0, TIMES_MOST):
            raise BadWeights("size")
        return Weights([[weight * size for weight in line] for line in self.lines])

    def renumbered(self, side, order):
        """Return the weights in which the side's kind order[k] is called k."""
        turned = check_side_order(order, self.sides[check_side(side)], side)
        return Weights(renumbered_lines(self.lines, side, turned))


def check_weights(costs, weights):
    """Return the weights, or raise NotAlike if they are not of the sides of the costs."""
    if weights.sides != costs.sides:
        raise NotAlike("sides")
    return weights


def ends_up_to(entry, cost):
    """Return a list of the ends that cost at most so much."""
    return [end for end, price in enumerate(entry) if price <= cost]


def floor_of(costs, weights):
    """Return the sum over all couples of the weight times the couple's least cost."""
    check_weights(costs, weights)
    couples = couples_of(costs.sides)
    return sum([weights.lines[east][west] * min(costs.lines[east][west]) for east, west in couples])


def cheapest_goals(costs, weights):
    """Return the goals in which each couple wants its cheapest ends, one of weight 0 all ends from 0 on."""
    check_weights(costs, weights)
    wanted = []
    for line, shares in zip(costs.lines, weights.lines):
        lets = [min(entry) if share > 0 else max(entry) for entry, share in zip(line, shares)]
        wanted.append([ends_up_to(entry, let) for entry, let in zip(line, lets)])
    return Goals(costs.ladder, wanted)


def as_goals(costs, cost):
    """Return the goals in which each couple wants its ends that cost at most so much."""
    # Goals themselves refuse a couple that is left without an end
    return Goals(costs.ladder, [[ends_up_to(entry, cost) for entry in line] for line in costs.lines])
