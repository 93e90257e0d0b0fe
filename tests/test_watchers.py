"""[9.8] to [9.10]: pools, talks seen, and plans of asking."""

import random
import unittest

from risingcalls.errors import BadKind, BadPool, BadRow, BadTalk
from risingcalls.systems import System
from risingcalls.talks import Gap, Talk
from risingcalls.watchers import (
    Plan, Pool, Told, ask_plan, fitting, least_questions, next_couple, plan_depth, plan_fault, sure_word, told_by,
)
from test_alike import couples
from worlds import (
    NO_SEQUENCE, NO_WHOLE, Case, answers_in, listed, lots_by_words, random_words, spoil, told_end, told_rows, told_speaker,
    told_talk, told_words,
)

WORLDS = [((1, 1), 0, False), ((2, 1), 2, False), ((2, 2), 2, False), ((1, 3), 3, False), ((3, 2), 2, False),
          ((2, 2), 1, True), ((2, 1), 2, True), ((2, 3), 1, True)]


def drawn_words(rng, sides, ladder, foes, many):
    """Systems as dicts, some of them nearly equal or equal."""
    found = [random_words(rng, sides, ladder, foes, rng.choice((0.8, 1.0)), 0.5)]
    while len(found) < many:
        words = dict(rng.choice(found))
        for _ in range(rng.randint(0, 3) if words else 0):
            row, kind = rng.choice(list(words))
            words[row, kind] = rng.choice(told_words(row, ladder))
        found.append(words)
    return found


def drawn_pools(seed, many=6):
    """(sides, ladder, foes, words of each system, pool)."""
    rng = random.Random(seed)
    for sides, ladder, foes in WORLDS:
        for _ in range(many):
            words = drawn_words(rng, sides, ladder, foes, rng.randint(1, 6))
            yield sides, ladder, foes, words, Pool([System(sides, ladder, answers_in(one), foes) for one in words])


def reply_of(words, ladder, foes, couple):
    """What is told of the reply: all that makes it unlike others."""
    talk = told_talk(words, ladder, foes, couple, ())
    return ("talk", talk[1], told_end(talk[1], foes)) if talk[0] == "talk" else ("gap", talk[1], talk[2])


def result_of(reply):
    return Talk(*reply[1:]) if reply[0] == "talk" else Gap(*reply[1:])


class Pools(Case):
    def test_making(self):
        systems = [System((1, 2), 1, []), System((1, 2), 1, [((), 0, 1)]), System((1, 2), 1, [])]
        pool = Pool(systems)
        self.assertIs(type(pool.systems), tuple)
        self.assertEqual(pool.systems, tuple(systems))
        self.same(len(pool), 3)
        systems.pop()
        self.same(len(pool), 3)
        self.same([len(Pool([System((1, 1), 0, [])] * many)) for many in (1, 6)], [1, 6])
        for odd in (*NO_SEQUENCE, (), [None] * 7, [System((1, 1), 0, [])] * 7):
            self.refused(BadPool(None), Pool, odd)
        base = System((1, 2), 1, [])
        for odd in (None, (), System((2, 1), 1, []), System((1, 2), 2, []), System((1, 2), 1, [], True)):
            self.refused(BadPool(1), Pool, [base, odd, None])
        self.refused(BadPool(0), Pool, [None, base])

    def test_equality(self):
        one, other = System((1, 1), 1, []), System((1, 1), 1, [((), 0, 0)])
        self.assertTrue(Pool([one, other]) == Pool((one, System((1, 1), 1, [((), 0, 0)]))))
        self.unequal_to_all(Pool([one, other]), [Pool([other, one]), Pool([one]), None, (one, other)])
        self.assertTrue(Told((0,)) == Told((0,)))
        self.unequal_to_all(Told((0,)), [Told((1,)), Told([0]), None, (0,)])
        self.assertTrue(Plan((0, 0), ()) == Plan((0, 0), ()))
        self.unequal_to_all(Plan((0, 0), ()), [Plan((0, 1), ()), Plan((0, 0), (1,)), Told(()), None])
        thing = [1]
        self.assertIs(Told(thing).numbers, thing)
        self.assertIs(Plan(thing, 1).couple, thing)
        self.assertIs(Plan(1, thing).onward, thing)


class Seen(Case):
    def test_fitting_and_sure_words(self):
        rng = random.Random(941)
        seen = {"none fits": 0, "sure": 0, "unlike": 0, "lacks": 0}
        for sides, ladder, foes, words, pool in drawn_pools(942):
            rows = told_rows(ladder, foes)
            for _ in range(12):
                talks = []
                spoken = rng.choice(words)
                for _ in range(rng.randint(0, 3)):
                    couple = rng.choice(couples(sides))
                    row = told_talk(spoken, ladder, foes, couple, ())[1] if rng.random() < 0.7 else rng.choice(rows)
                    talks.append((couple, row[:rng.randint(0, len(row))]))
                fit = [at for at, one in enumerate(words) if all(
                    couple[side] in lots_by_words(one, sides, row, foes)[side] for couple, row in talks for side in (0, 1))]
                self.same(fitting(pool, talks), tuple(fit))
                self.same(fitting(pool, listed(talks)), tuple(fit))
                row = rng.choice([row for row in rows if told_speaker(row, foes) is not None][:9])
                kind = rng.randrange(sides[told_speaker(row, foes)])
                answers = {words[at].get((row, kind)) for at in fit}
                wanted = answers.pop() if len(answers) == 1 else None
                self.same(sure_word(pool, talks, row, kind), wanted)
                self.same(sure_word(pool, tuple(talks), list(row), kind), wanted)
                if not fit:
                    seen["none fits"] += 1
                elif wanted is not None:
                    seen["sure"] += 1
                else:
                    seen["unlike" if answers else "lacks"] += 1
        self.assertGreater(min(seen.values()), 5, seen)

    def test_a_system_fits_what_is_seen_of_it(self):
        for sides, ladder, foes, words, pool in drawn_pools(943):
            for at, one in enumerate(words):
                talks = [(couple, told_talk(one, ladder, foes, couple, ())[1]) for couple in couples(sides)]
                self.assertIn(at, fitting(pool, talks))

    def test_a_row_that_waits_for_a_foe(self):
        pool = Pool([System((1, 1), 2, [((), 0, 1)], True), System((1, 1), 2, [((), 0, 2)], True)])
        self.same(fitting(pool, [((0, 0), (1,))]), (0,))
        self.same(fitting(pool, [((0, 0), (1, 2))]), (0,))
        self.same(fitting(pool, []), (0, 1))
        self.same(sure_word(pool, [], (), 0), None)
        self.same(sure_word(pool, [((0, 0), (1,))], (), 0), 1)

    def test_errors_in_their_order(self):
        pool = Pool([System((2, 3), 1, [])])
        for work in (fitting, next_couple, lambda pool, talks: sure_word(pool, talks, None, None)):
            for odd in (None, True, 0, "ab", {}, {0}):
                self.refused(BadTalk(None), work, pool, odd)
            for odd in (*NO_SEQUENCE, (), ((0, 0),), ((0, 0), (), 0), ((2, 0), ()), ((0, 3), ()), ((True, 0), ()),
                        (None, ()), ((0, 0), None), ((0, 0), (2,)), ((0, 0), (0, 1)), ((0, 0), (True,)), ((0,), ())):
                self.refused(BadTalk(1), work, pool, [((0, 0), ()), odd, None])
        for odd in (*NO_SEQUENCE, (0,), (2,), (1, 0), (True,)):
            self.refused(BadRow(), sure_word, pool, [], odd, None)
        for odd in (*NO_WHOLE, -1, 2):
            self.refused(BadKind(), sure_word, pool, [], (), odd)
        self.refused(BadKind(), sure_word, pool, [], (1,), 3)
        self.refused(BadRow(), sure_word, Pool([System((1, 1), 1, [], True)]), [], (1,), 0)


class Next(Case):
    def test_the_most_unlike_replies(self):
        rng = random.Random(944)
        counts = {True: 0, False: 0}
        for sides, ladder, foes, words, pool in drawn_pools(945):
            for _ in range(4):
                couple = rng.choice(couples(sides))
                row = told_talk(rng.choice(words), ladder, foes, couple, ())[1]
                talks = [(couple, row[:rng.randint(0, len(row))])]
                fit = [words[at] for at in fitting(pool, talks)]
                many = [len({reply_of(one, ladder, foes, couple) for one in fit}) for couple in couples(sides)]
                wanted = couples(sides)[many.index(max(many))] if max(many) > 1 else None
                self.same(next_couple(pool, talks), wanted)
                counts[wanted is None] += 1
        self.assertGreater(min(counts.values()), 20)


def told_depth(numbers, replies):
    """The least depth of all plans for the systems of these numbers; replies[couple][number]."""
    best = None
    for couple in replies:
        groups = {}
        for number in numbers:
            groups.setdefault(replies[couple][number], []).append(number)
        if len(groups) > 1:
            depth = 1 + max(told_depth(group, replies) for group in groups.values())
            best = depth if best is None else min(best, depth)
    return 0 if best is None else best


def told_plan_fault(plan, numbers, replies):
    """The first fault of a plan in which all couples are couples and onward has pairs."""
    if isinstance(plan, Told):
        parted = any(len({replies[couple][number] for number in numbers}) > 1 for couple in replies)
        return "told" if plan.numbers != tuple(numbers) or parted else None
    groups = {}
    for number in numbers:
        groups.setdefault(replies[plan.couple][number], []).append(number)
    if [pair[0] for pair in plan.onward] != [result_of(reply) for reply in groups]:
        return "onward"
    for (_, later), left in zip(plan.onward, groups.values()):
        fault = told_plan_fault(later, left, replies)
        if fault is not None:
            return fault
    return None


def nodes_of(plan):
    return [plan] + [node for pair in getattr(plan, "onward", ()) for node in nodes_of(pair[1])]


def depth_of(plan):
    return 1 + max(depth_of(pair[1]) for pair in plan.onward) if isinstance(plan, Plan) else 0


def random_plan(rng, numbers, replies, asks=3):
    """A plan that asks at random, couples that part nothing, too."""
    parted = any(len({replies[couple][number] for number in numbers}) > 1 for couple in replies)
    if not parted and (asks <= 0 or rng.random() < 0.7):
        return Told(tuple(numbers))
    couple = rng.choice(list(replies))
    groups = {}
    for number in numbers:
        groups.setdefault(replies[couple][number], []).append(number)
    return Plan(couple, tuple((result_of(reply), random_plan(rng, left, replies, asks - 1))
                              for reply, left in groups.items()))


def copied(plan):
    """The same plan with lists for onward and its pairs."""
    if isinstance(plan, Told):
        return Told(plan.numbers)
    return Plan(plan.couple, [[reply, copied(later)] for reply, later in plan.onward])


class Plans(Case):
    def test_the_least_depth_of_all_plans(self):
        seen = set()
        for sides, ladder, foes, words, pool in drawn_pools(946, 8):
            replies = {couple: [reply_of(one, ladder, foes, couple) for one in words] for couple in couples(sides)}
            plan = ask_plan(pool)
            depth = told_depth(range(len(words)), replies)
            self.same(least_questions(pool), depth)
            self.same(plan_depth(plan), depth)
            self.same(depth_of(plan), depth)
            self.same(plan_fault(pool, plan), None)
            self.same(told_plan_fault(plan, range(len(words)), replies), None)
            for at, system in enumerate(pool.systems):
                self.assertIn(at, told_by(plan, system))
            for node in nodes_of(plan):
                self.assertIs(type(node.onward if isinstance(node, Plan) else node.numbers), tuple)
            seen.add(depth)
        self.assertGreaterEqual(seen, {0, 1, 2})

    def test_systems_that_must_be_asked_for_more_than_once(self):
        # four kinds of east; each system has one kind of its own that calls, so only its couple tells it
        systems = [System((4, 1), 1, [((), kind, int(kind == at)) for kind in range(4)]
                          + [((1,), 0, 0)]) for at in range(4)]
        pool = Pool(systems)
        self.same(least_questions(pool), 3)
        self.same(plan_depth(ask_plan(pool)), 3)
        self.same(next_couple(pool, []), (0, 0))
        plan = ask_plan(pool)
        self.same([told_by(plan, system) for system in systems], [(0,), (1,), (2,), (3,)])
        self.same(told_by(plan, System((4, 1), 1, [])), None)

    def test_plans_that_ask_at_random_and_are_spoilt(self):
        rng = random.Random(947)
        seen = {None: 0, "onward": 0, "told": 0}
        for sides, ladder, foes, words, pool in drawn_pools(948):
            replies = {couple: [reply_of(one, ladder, foes, couple) for one in words] for couple in couples(sides)}
            for change in range(9):
                plan = copied(random_plan(rng, range(len(words)), replies, rng.randint(0, 6)))
                node = rng.choice(nodes_of(plan))
                if change > 2 and isinstance(node, Plan):
                    at = rng.randrange(len(node.onward))
                    if change == 3:
                        node.onward.pop(at)
                    elif change == 4:
                        node.onward.append(node.onward[at])
                    elif change == 5:
                        node.onward.reverse()
                    elif change == 6:
                        node.couple = rng.choice(couples(sides))
                    elif change == 7:
                        node.onward[at][1] = Told(tuple(range(len(words))))
                elif change > 2:
                    node.numbers = rng.choice([node.numbers[1:], node.numbers + (9,), tuple(range(len(words)))])
                wanted = told_plan_fault(plan, range(len(words)), replies)
                self.same(plan_fault(pool, plan), wanted)
                seen[wanted] += 1
                self.same(plan_depth(plan), self.depth(plan))
                if wanted is None:
                    for at, system in enumerate(pool.systems):
                        self.assertIn(at, told_by(plan, system))
        self.assertGreater(min(seen.values()), 20)

    def depth(self, plan):
        return 1 + max((self.depth(later) for _, later in plan.onward), default=0) if isinstance(plan, Plan) else 0

    def test_labels_by_hand(self):
        systems = [System((2, 1), 1, [((), 0, 0), ((), 1, 0)]), System((2, 1), 1, [((), 0, 0), ((), 1, 1)])]
        pool = Pool(systems)
        stop, gap = Talk((0,), 0), Gap((1,), 0)
        right = Plan((1, 0), ((stop, Told((0,))), (gap, Told((1,)))))
        self.same(plan_fault(pool, right), None)
        self.assertTrue(ask_plan(pool) == right)
        self.same(plan_fault(pool, Plan([1, 0], [[stop, Told((0,))], [gap, Told((1,))]])), None)
        self.same(plan_fault(pool, Plan((0, 0), ((stop, right),))), None)
        for odd in (*NO_SEQUENCE, (), (0, 1)):
            self.same(plan_fault(pool, odd), "plan")
            self.same(plan_fault(pool, Plan((0, 0), ((stop, odd),))), "plan")
        for odd in (*NO_SEQUENCE, (), (2, 0), (0, 1), (0,), (0, 0, 0), (True, 0)):
            self.same(plan_fault(pool, Plan(odd, None)), "couple")
        for odd in (*NO_SEQUENCE, (), ((stop, None),), ((gap, None), (stop, None)), ((stop, None), (gap,)),
                    ((stop, None), None), ((stop, None), (gap, None, 0)), ((stop, None), (gap, None), (stop, None)),
                    ((stop, None), (stop, None)), ((None, None), (gap, None)), (((0,), None), (gap, None)),
                    ((Talk((0,), 1), None), (gap, None)), ((Talk([0], 0), None), (gap, None))):
            self.same(plan_fault(pool, Plan((1, 0), odd)), "onward")
        for odd in (*NO_WHOLE, [0], (1,), (False,), (0, 1), (0, 0)):
            self.same(plan_fault(pool, Plan((1, 0), ((stop, Told(odd)), (gap, None)))), "told")
        # the two can be parted, so they are not told
        self.same(plan_fault(pool, Told((0, 1))), "told")
        self.same(plan_fault(Pool(systems[:1] * 3), Told((0, 1, 2))), None)
        self.same(plan_fault(Pool(systems[:1] * 3), Told([0, 1, 2])), "told")
        self.same(plan_fault(Pool(systems[:1] * 3), Told((0, 2, 1))), "told")
        self.same(plan_fault(Pool(systems[:1] * 2), Told((False, True))), "told")
        # what is wrong behind the first reply comes ahead of what is wrong behind the second
        self.same(plan_fault(pool, Plan((1, 0), ((stop, Plan((0, 0), ((stop, Told(())),))), (gap, None)))), "told")

    def test_deep_plans(self):
        pool = Pool([System((1, 1), 0, [((), 0, 0)])])
        plan = Told((0,))
        for _ in range(100):
            plan = Plan((0, 0), ((Talk((0,), 0), plan),))
        self.same(plan_depth(plan), 100)
        self.same(plan_fault(pool, plan), None)
        self.same(told_by(plan, pool.systems[0]), (0,))

    def test_depths_and_ends_by_hand(self):
        self.same(plan_depth(Told(())), 0)
        self.same(plan_depth(Plan((0, 0), [])), 1)
        plan = Plan((0, 0), [[Talk((0,), 0), Told((4,))], [Gap((), 0), Plan((0, 0), [])]])
        self.same(plan_depth(plan), 2)
        self.same(told_by(plan, System((1, 1), 0, [((), 0, 0)])), (4,))
        self.same(told_by(plan, System((1, 1), 0, [])), None)
        self.same(told_by(Told([7]), System((1, 1), 0, [])), [7])

    def test_what_is_passed_is_not_kept(self):
        systems = [System((1, 1), 1, [((), 0, 0)]), System((1, 1), 1, [((), 0, 1)])]
        given = list(systems)
        pool = Pool(given)
        spoil(given)
        self.same(plan_fault(pool, ask_plan(pool)), None)
        talks = [[[0, 0], [0]]]
        self.same(fitting(pool, talks), (0,))
        self.same(talks, [[[0, 0], [0]]])


if __name__ == "__main__":
    unittest.main()
