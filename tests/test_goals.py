"""[1.4], [1.5], [1.6]: goals, and goals made of goals."""

import itertools
import random
import unittest

from risingcalls.errors import BadCouple, BadEnd, BadGoals, BadLot, BadSide, NotAlike
from risingcalls.goals import Goals
from worlds import ALL_SIDES, NO_SEQUENCE, NO_TRUTH, NO_WHOLE, Case, listed, lots_of, spoil

TRUTHS = list(itertools.product((False, True), repeat=2))
WANTED = (((-2, 0), (1,), (2,)), ((0,), (0, 1, 2), (-1, 2)))


def some_goals(rng, sides, ladder, knows=None):
    ends = range(-ladder, ladder + 1)
    wanted = [[rng.sample(ends, rng.randint(1, len(ends))) for _ in range(sides[1])] for _ in range(sides[0])]
    return Goals(ladder, wanted, rng.choice(TRUTHS) if knows is None else knows)


def many_goals(seed):
    rng = random.Random(seed)
    for sides in ALL_SIDES:
        for ladder in range(7):
            yield some_goals(rng, sides, ladder)


class Making(Case):
    def test_attributes_are_tuples_at_every_depth(self):
        for given in (WANTED, listed(WANTED)):
            for knows in TRUTHS:
                goals = Goals(2, given, listed(knows))
                self.same(goals.wanted, WANTED)
                self.same((goals.ladder, goals.knows, goals.sides), (2, knows, (2, 3)))
        self.same(Goals(0, [[(0,)]]).knows, (False, False))

    def test_ends_are_kept_ascending_and_once(self):
        goals = Goals(6, [[[6, -6, 0, 6, 3, -6, 0]]])
        self.same(goals.wanted, (((-6, 0, 3, 6),),))

    def test_all_sides_and_ladders(self):
        for sides in ALL_SIDES:
            for ladder in range(7):
                wanted = [[[-ladder, 0, ladder]] * sides[1]] * sides[0]
                goals = Goals(ladder, wanted)
                self.same(goals.sides, sides)
                self.same(goals.ends_for((sides[0] - 1, sides[1] - 1)),
                          (-ladder, 0, ladder) if ladder else (0,))

    def test_wrong_ladder(self):
        for ladder in (*NO_WHOLE, -1, 7):
            self.refused(BadGoals("ladder"), Goals, ladder, [[[0]]])

    def test_wrong_sides(self):
        for wanted in (*NO_SEQUENCE, (), [], [[]], [[], []], [[[0]], []], [[[0]], [[0], [0]]], [[[0], [0]], [[0]]],
                       [None], [[[0]], None], ["ab", "cd"], [{0: [0]}], [[[0]] * 7], [[[0]]] * 7, [[[0]] * 5] * 3,
                       [[[0]] * 4] * 4):
            self.refused(BadGoals("sides"), Goals, 1, wanted)

    def test_wrong_ends(self):
        for ends in (*NO_SEQUENCE, (), [], [2], [-2], [0, 2], [True], [0, None], ["0"], [[0]], [0.0], [-3, 0]):
            self.refused(BadGoals("wanted"), Goals, 1, [[ends]])
            self.refused(BadGoals("wanted"), Goals, 1, [[[0], [1]], [[-1], ends]])
        self.refused(BadGoals("wanted"), Goals, 0, [[[1]]])

    def test_wrong_knows(self):
        for knows in (*NO_SEQUENCE, (), (True,), (True, True, True), [False, False, False]):
            self.refused(BadGoals("knows"), Goals, 1, [[[0]]], knows)
        for odd in NO_TRUTH:
            self.refused(BadGoals("knows"), Goals, 1, [[[0]]], (odd, True))
            self.refused(BadGoals("knows"), Goals, 1, [[[0]]], [False, odd])

    def test_of_two_faults_the_first_one_counts(self):
        self.refused(BadGoals("ladder"), Goals, 7, None, None)
        self.refused(BadGoals("ladder"), Goals, None, [[[9]]])
        self.refused(BadGoals("sides"), Goals, 1, [[[9]], []], None)
        self.refused(BadGoals("wanted"), Goals, 1, [[[9]]], None)

    def test_later_changes_have_no_effect(self):
        wanted = listed(WANTED)
        knows = [True, False]
        goals = Goals(2, wanted, knows)
        self.same(wanted, listed(WANTED))
        spoil(wanted)
        spoil(knows)
        self.same((goals.wanted, goals.knows, goals.sides), (WANTED, (True, False), (2, 3)))

    def test_equality(self):
        goals = Goals(2, WANTED, (True, False))
        self.assertTrue(goals == Goals(2, [[[0, -2], [1, 1], [2]], [[0], [2, 1, 0], [2, -1]]], [True, False]))
        self.unequal_to_all(goals, [
            Goals(3, WANTED, (True, False)), Goals(2, WANTED, (False, False)), Goals(2, WANTED, (True, True)),
            Goals(2, WANTED[::-1], (True, False)), Goals(2, WANTED[:1], (True, False)), None, 2, WANTED, "goals",
            (2, WANTED, (True, False)),
        ])


class Asking(Case):
    def test_ends_for_each_couple(self):
        goals = Goals(2, WANTED)
        for east, west in itertools.product(range(2), range(3)):
            self.same(goals.ends_for((east, west)), WANTED[east][west])
            self.same(goals.ends_for([east, west]), WANTED[east][west])

    def test_wrong_couples(self):
        goals = Goals(2, WANTED)
        for couple in (*NO_SEQUENCE, (), (0,), (0, 0, 0), (2, 0), (0, 3), (-1, 0), (0, -1), (True, 0), (0, None)):
            self.refused(BadCouple(), goals.ends_for, couple)
            self.refused(BadCouple(), goals.suits, couple, 0, (True, True))
            self.refused(BadCouple(), goals.with_end, couple, 0)

    def test_suits_for_all_couples_and_outcomes(self):
        for knows in TRUTHS:
            goals = Goals(2, WANTED, knows)
            for east, west in itertools.product(range(2), range(3)):
                for end in range(-3, 4):
                    for knowing in TRUTHS:
                        wanted = (end in WANTED[east][west] and (knowing[0] or not knows[0])
                                  and (knowing[1] or not knows[1]))
                        self.same(goals.suits((east, west), end, knowing), wanted)
                        self.same(goals.suits([east, west], end, list(knowing)), wanted)

    def test_true_is_no_end(self):
        goals = Goals(1, [[[0, 1]]])
        self.same((goals.suits((0, 0), True, (True, True)), goals.suits((0, 0), False, (True, True))), (False, False))

    def test_implies_is_told_by_all_outcomes(self):
        rng = random.Random(3)
        counts = {True: 0, False: 0}
        for _ in range(600):
            sides = rng.choice([(1, 1), (2, 1), (1, 2), (2, 2)])
            one, other = (some_goals(rng, sides, 1) for _ in range(2))
            outcomes = itertools.product(itertools.product(range(sides[0]), range(sides[1])), (-1, 0, 1), TRUTHS)
            wanted = all(other.suits(*outcome) for outcome in outcomes if one.suits(*outcome))
            self.same(one.implies(other), wanted)
            counts[wanted] += 1
        self.assertGreater(min(counts.values()), 30)

    def test_implies_for_all_knows(self):
        for knows, others in itertools.product(TRUTHS, repeat=2):
            wanted = (knows[0] or not others[0]) and (knows[1] or not others[1])
            self.same(Goals(1, [[[0]]], knows).implies(Goals(1, [[[0, 1]]], others)), wanted)
            self.same(Goals(1, [[[0, 1]]], knows).implies(Goals(1, [[[0]]], others)), False)

    def test_implies_needs_goals_that_are_alike(self):
        goals = Goals(2, [[[0]]])
        self.refused(NotAlike("sides"), goals.implies, Goals(2, [[[0], [0]]]))
        self.refused(NotAlike("sides"), goals.implies, Goals(2, [[[0]], [[0]]]))
        self.refused(NotAlike("ladder"), goals.implies, Goals(1, [[[0]]]))
        self.refused(NotAlike("sides"), goals.implies, Goals(1, [[[0], [0]]]))


class Changing(Case):
    def test_kept_for_all_lots(self):
        goals = Goals(2, WANTED, (False, True))
        for east in lots_of(2):
            for west in lots_of(3):
                wanted = tuple(tuple(WANTED[e][w] for w in west) for e in east)
                for lots in ((east, west), (list(east), list(west))):
                    kept = goals.kept(*lots)
                    self.same(kept.wanted, wanted)
                    self.same((kept.ladder, kept.knows, kept.sides), (2, (False, True), (len(east), len(west))))

    def test_kept_refuses_what_is_no_lot(self):
        goals = Goals(2, WANTED)
        for odd in (*NO_SEQUENCE, (), (3,), (1, 0), (0, 0), (True,), (-1, 0), (0, None)):
            self.refused(BadLot(0), goals.kept, odd, (0,))
            self.refused(BadLot(1), goals.kept, (0,), odd)
            self.refused(BadLot(0), goals.kept, odd, odd)
        self.refused(BadLot(0), goals.kept, (2,), (2,))
        self.same(goals.kept((1,), (2,)).wanted, (((-1, 2),),))

    def test_renumbered_for_all_orders(self):
        goals = Goals(2, WANTED, (True, False))
        for order in itertools.permutations(range(2)):
            turned = goals.renumbered(0, list(order))
            self.same(turned.wanted, tuple(WANTED[kind] for kind in order))
            self.same((turned.ladder, turned.knows), (2, (True, False)))
        for order in itertools.permutations(range(3)):
            turned = goals.renumbered(1, order)
            self.same(turned.wanted, tuple(tuple(line[kind] for kind in order) for line in WANTED))
            self.same((turned.ladder, turned.knows), (2, (True, False)))

    def test_renumbered_refuses(self):
        goals = Goals(2, WANTED)
        for side in (*NO_WHOLE, -1, 2):
            self.refused(BadSide(), goals.renumbered, side, (0, 1))
            self.refused(BadSide(), goals.renumbered, side, None)
        for odd in (*NO_SEQUENCE, (), (0,), (0, 0), (0, 2), (False, 1), (1, -1), (0, 1, 2, 3)):
            self.refused(BadLot(0), goals.renumbered, 0, odd)
            self.refused(BadLot(1), goals.renumbered, 1, odd)
        self.refused(BadLot(0), goals.renumbered, 0, (0, 1, 2))
        self.refused(BadLot(1), goals.renumbered, 1, (0, 1))

    def test_raised_by_as_much_as_is_let(self):
        for goals in many_goals(5):
            for by in range(7 - goals.ladder):
                raised = goals.raised(by)
                self.same((raised.ladder, raised.knows), (goals.ladder + by, goals.knows))
                for east, line in enumerate(goals.wanted):
                    for west, ends in enumerate(line):
                        wanted = sorted(end + by if end >= 0 else end - by for end in ends)
                        self.same(raised.ends_for((east, west)), tuple(wanted))

    def test_raised_refuses(self):
        for ladder in range(7):
            goals = Goals(ladder, [[[0]]])
            for by in (*NO_WHOLE, -1, 7 - ladder, 7):
                self.refused(BadGoals("ladder"), goals.raised, by)

    def test_without_foes(self):
        refused = 0
        for goals in many_goals(6):
            wanted = tuple(tuple(tuple(end for end in ends if end >= 0) for ends in line) for line in goals.wanted)
            if all(ends for line in wanted for ends in line):
                found = goals.without_foes()
                self.same((found.wanted, found.ladder, found.knows), (wanted, goals.ladder, goals.knows))
            else:
                refused += 1
                self.refused(BadGoals("wanted"), goals.without_foes)
        self.assertGreater(refused, 10)
        self.same(Goals(2, [[[-2, -1, 0, 1]]]).without_foes().wanted, (((0, 1),),))

    def test_with_end_for_all_couples_and_ends(self):
        goals = Goals(2, WANTED, (True, True))
        for east, west in itertools.product(range(2), range(3)):
            for end in range(-2, 3):
                found = goals.with_end([east, west], end)
                wanted = [list(line) for line in WANTED]
                wanted[east][west] = tuple(sorted({*wanted[east][west], end}))
                self.same(found.wanted, tuple(tuple(line) for line in wanted))
                self.same((found.ladder, found.knows), (2, (True, True)))

    def test_with_end_refuses(self):
        goals = Goals(2, WANTED)
        for end in (*NO_WHOLE, -3, 3):
            self.refused(BadEnd(), goals.with_end, (0, 0), end)
            self.refused(BadCouple(), goals.with_end, (2, 0), end)

    def test_all_wanted(self):
        for sides in ALL_SIDES:
            for ladder in range(7):
                for knows in TRUTHS:
                    found = Goals.all_wanted(list(sides), ladder, list(knows))
                    ends = tuple(range(-ladder, ladder + 1))
                    self.same(found.wanted, ((ends,) * sides[1],) * sides[0])
                    self.same((found.ladder, found.knows, found.sides), (ladder, knows, sides))
        self.same(Goals.all_wanted((1, 1), 0).knows, (False, False))

    def test_all_wanted_refuses(self):
        for ladder in (*NO_WHOLE, -1, 7):
            self.refused(BadGoals("ladder"), Goals.all_wanted, (1, 1), ladder)
            self.refused(BadGoals("ladder"), Goals.all_wanted, None, ladder, None)
        for sides in (*NO_SEQUENCE, (), (1,), (0, 1), (7, 1), (3, 5), (True, 1), (1, None), (1, 1, 1)):
            self.refused(BadGoals("sides"), Goals.all_wanted, sides, 1)
            self.refused(BadGoals("sides"), Goals.all_wanted, sides, 1, None)
        for knows in (None, True, (True,), (1, 0), (True, True, True)):
            self.refused(BadGoals("knows"), Goals.all_wanted, (1, 1), 1, knows)

    def test_later_changes_of_what_was_passed_have_no_effect(self):
        goals = Goals(2, WANTED)
        east, west, order, sides, knows, couple = [1], [0, 2], [1, 0], [1, 2], [True, False], [0, 1]
        found = (goals.kept(east, west), goals.renumbered(0, order), Goals.all_wanted(sides, 0, knows),
                 goals.with_end(couple, 0))
        for thing in (east, west, order, sides, knows, couple):
            spoil(thing)
        self.same([one.wanted for one in found], [
            (((0,), (-1, 2)),), WANTED[::-1], (((0,), (0,)),), (((-2, 0), (0, 1), (2,)), WANTED[1])])
        self.same(found[2].knows, (True, False))

    def test_nothing_changes_the_goals(self):
        goals = Goals(2, WANTED, (True, False))
        for work in (lambda: goals.kept([0], [1]), lambda: goals.renumbered(1, [2, 1, 0]), lambda: goals.raised(2),
                     lambda: goals.with_end((0, 0), 1), lambda: goals.kept([0, 1], [0, 1, 2])):
            self.assertIsNot(work(), goals)
            self.assertTrue(goals == Goals(2, WANTED, (True, False)))


if __name__ == "__main__":
    unittest.main()
