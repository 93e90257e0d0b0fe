"""Dear goals: the least cost that no couple must exceed, and what bars a lesser one."""

from risingcalls.basics import is_whole
from risingcalls.costs import as_goals
from risingcalls.deciding import decide_goals
from risingcalls.heard import is_whole_system
from risingcalls.judging import table_fault
from risingcalls.stands import first_stand
from risingcalls.systems import System, unlike_in
from risingcalls.totals import worst_of
from risingcalls.winning import is_won


class Worst:
    """The least cost that no couple exceeds, a system in which none does, and the table that bars a lesser one."""

    def __init__(self, cost, system, table):
        self.cost = cost
        self.system = system
        self.table = table


def least_cost_let(costs):
    """Return the least cost within which each couple has an end."""
    return max([min(entry) for line in costs.lines for entry in line])


def is_cost_won(costs, cost):
    """Return whether some plain system keeps all couples within the cost."""
    goals = as_goals(costs, cost)
    return is_won(goals, first_stand(goals))


def least_cost_won(costs):
    """Return the least cost within which some plain system keeps all couples."""
    least = least_cost_let(costs)
    lets = sorted({cost for line in costs.lines for entry in line for cost in entry})
    lets = [cost for cost in lets if cost >= least]
    # what is won within a cost is won within every greater one
    low, high = 0, len(lets) - 1
    while low < high:
        middle = (low + high) // 2
        if is_cost_won(costs, lets[middle]):
            high = middle
        else:
            low = middle + 1
    return lets[low]


def worst_best(costs):
    """Return the Worst of the least cost that some plain system lets no couple exceed."""
    cost = least_cost_won(costs)
    table = None
    if cost > least_cost_let(costs):
        table = decide_goals(as_goals(costs, cost - 1)).stands
    return Worst(cost, decide_goals(as_goals(costs, cost)).system, table)


def bars_less(costs, cost, table):
    """Return whether a table bars every system that keeps all couples below the cost; None where none is due."""
    if cost <= least_cost_let(costs):
        return table is None
    return table_fault(as_goals(costs, cost - 1), table) is None


def worst_fault(costs, worst):
    """Return the label of the first fault of a Worst, None if there is none."""
    if not isinstance(worst, Worst) or not is_whole(worst.cost):
        return "worst"
    system = worst.system
    if not isinstance(system, System) or unlike_in(costs, system, False) is not None or not is_whole_system(system):
        return "system"
    if worst_of(costs, system) > worst.cost:
        return "cost"
    return None if bars_less(costs, worst.cost, worst.table) else "table"
