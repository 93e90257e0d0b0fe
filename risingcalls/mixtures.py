"""Mixtures: one of several plain systems is drawn by shares before the talk."""

from risingcalls.basics import is_sequence, is_whole
from risingcalls.errors import BadMixture
from risingcalls.heard import is_whole_system
from risingcalls.systems import System, unlike_in
from risingcalls.totals import fraction, total_of

SYSTEMS_MOST = 6
SHARE_MOST = 1000


def is_mixable(thing, first):
    """Return whether a value is a plain system without a gap, like the first one in sides and ladder."""
    return isinstance(thing, System) and unlike_in(first, thing, False) is None and is_whole_system(thing)


class Mixture:
    """Systems and their shares."""

    def __init__(self, shares, systems):
        if not is_sequence(systems) or not is_sequence(shares) or len(shares) != len(systems):
            raise BadMixture(0, "many")
        if not is_whole(len(systems), 1, SYSTEMS_MOST):
            raise BadMixture(0, "many")
        for index, system in enumerate(systems):
            if not is_mixable(system, systems[0]):
                raise BadMixture(index, "system")
            if not is_whole(shares[index], 0, SHARE_MOST):
                raise BadMixture(index, "share")
        if sum(shares) == 0:
            raise BadMixture(0, "shares")
        self.shares = tuple(shares)
        self.systems = tuple(systems)


def totals_in(costs, weights, mixture):
    """Return a list of the totals of the mixture's systems."""
    return [total_of(costs, weights, system) for system in mixture.systems]


def mixed_total(costs, weights, mixture):
    """Return the mean of the totals by their shares, a fraction in lowest terms."""
    totals = totals_in(costs, weights, mixture)
    top = sum([share * total for share, total in zip(mixture.shares, totals)])
    return fraction(top, sum(mixture.shares))


def purest_of(costs, weights, mixture):
    """Return the index of the first system with the least total among those of a share above 0."""
    totals = totals_in(costs, weights, mixture)
    drawn = [index for index, share in enumerate(mixture.shares) if share > 0]
    return min(drawn, key=lambda index: totals[index])
