"""[10.14]: the bench."""

import random
import unittest

from risingcalls.bench import Bench
from risingcalls.changes import system_after
from risingcalls.errors import BadChange, NoChange
from risingcalls.systems import System
from test_changes import drawn_change
from worlds import NO_SEQUENCE, Case, answers_in, listed, random_words, spoil

START = System((1, 2), 2, [((), 0, 1), ((1,), 0, 0)])
PUT = ("answer", (), 0, 2)
STRIKE = ("strike", (1,), 0)


def state_of(bench):
    return (bench.start, bench.system.answers, bench.standing, bench.log)


class Deeds(Case):
    def is_at(self, bench, start, standing, log):
        self.assertIs(bench.start, start)
        self.same(bench.standing, tuple(standing))
        self.same(bench.log, tuple(log))
        self.same(len(bench), len(standing))
        self.same(list(bench), list(standing))
        wanted = system_after(start, [change for _, change in standing])
        self.assertTrue(bench.system == wanted)

    def test_a_new_bench(self):
        bench = Bench(START)
        self.is_at(bench, START, [], [])
        self.same(sorted({"start", "system", "standing", "log"} - set(vars(bench))), [])

    def test_many_deeds(self):
        rng = random.Random(1001)
        for sides, ladder, foes in [((1, 1), 0, False), ((2, 1), 2, False), ((2, 2), 2, False), ((1, 2), 2, True)]:
            for _ in range(8):
                start = System(sides, ladder, answers_in(random_words(rng, sides, ladder, foes, 0.5)), foes)
                bench = Bench(start)
                standing, log, given = [], [], 0
                for _ in range(25):
                    if rng.random() < 0.6:
                        change = drawn_change(rng, sides, ladder, foes)
                        given += 1
                        self.same(bench.put(rng.choice((change, listed(change)))), given)
                        standing.append((given, change))
                        log.append(("put", given, change))
                    else:
                        number = rng.randint(0, given + 1)
                        found = [pair for pair in standing if pair[0] == number]
                        if not found:
                            self.refused(NoChange(number), bench.take_back, number)
                        else:
                            self.same(bench.take_back(number), None)
                            standing.remove(found[0])
                            log.append(("back", *found[0]))
                    self.is_at(bench, start, standing, log)

    def test_all_changes_taken_back(self):
        bench = Bench(START)
        self.same([bench.put(PUT), bench.put(STRIKE), bench.put(PUT)], [1, 2, 3])
        for number in (2, 1, 3):
            bench.take_back(number)
        self.is_at(bench, START, [], [("put", 1, PUT), ("put", 2, STRIKE), ("put", 3, PUT), ("back", 2, STRIKE),
                                      ("back", 1, PUT), ("back", 3, PUT)])
        self.assertTrue(bench.system == START)
        # numbers are not given again
        self.same(bench.put(STRIKE), 4)

    def test_an_earlier_change_holds_again_when_a_later_one_is_taken_back(self):
        bench = Bench(START)
        bench.put(PUT)
        bench.put(("strike", (), 0))
        self.same(bench.system.has_answer((), 0), False)
        bench.take_back(2)
        self.same(bench.system.answer_for((), 0), 2)
        bench.put(("answer", (), 0, 0))
        bench.take_back(1)
        self.same(bench.system.answer_for((), 0), 0)

    def test_refused_deeds_change_nothing(self):
        bench = Bench(START)
        bench.put(PUT)
        before = state_of(bench)
        for odd in (*NO_SEQUENCE, (), ("answer", (), 0), ("put", (), 0, 0)):
            self.refused(BadChange(0, "change"), bench.put, odd)
        for odd in (*NO_SEQUENCE, (0,), (3,)):
            self.refused(BadChange(0, "row"), bench.put, ("strike", odd, None))
        self.refused(BadChange(0, "kind"), bench.put, ("strike", (1,), 2))
        self.refused(BadChange(0, "word"), bench.put, ("answer", (1,), 0, 1))
        for odd in (0, 2, -1, 1.5, "1", None, True, (), (1,)):
            self.refused(NoChange(odd), bench.take_back, odd)
        self.assertEqual(state_of(bench), before)
        self.same(bench.put(STRIKE), 2)
        bench.take_back(1)
        self.refused(NoChange(1), bench.take_back, 1)

    def test_what_is_passed_is_not_kept(self):
        bench = Bench(START)
        change = ["answer", [1], 1, 2]
        bench.put(change)
        self.same(change, ["answer", [1], 1, 2])
        spoil(change)
        self.same(bench.standing, ((1, ("answer", (1,), 1, 2)),))
        self.assertTrue(bench.start == System((1, 2), 2, [((), 0, 1), ((1,), 0, 0)]))


class Trials(Case):
    def test_all_is_as_it_was(self):
        bench = Bench(START)
        bench.put(PUT)
        before = state_of(bench)
        with bench.trial() as held:
            self.assertIs(held, bench)
            self.same(bench.put(STRIKE), 2)
            bench.take_back(1)
            self.same(bench.standing, ((2, STRIKE),))
            self.same(len(bench.log), 3)
        self.assertEqual(state_of(bench), before)
        self.same(bench.put(STRIKE), 2)

    def test_as_it_was_when_the_block_was_entered(self):
        bench = Bench(START)
        trial = bench.trial()
        bench.put(PUT)
        with trial:
            bench.put(STRIKE)
        self.same(bench.standing, ((1, PUT),))
        self.same(bench.put(STRIKE), 2)

    def test_an_error_goes_on(self):
        bench = Bench(START)
        bench.put(PUT)
        before = state_of(bench)
        for error in (KeyError("why"), BadChange(0, "word"), KeyboardInterrupt()):
            with self.assertRaises(type(error)) as caught:
                with bench.trial():
                    bench.put(STRIKE)
                    raise error
            self.assertIs(caught.exception, error)
            self.assertEqual(state_of(bench), before)
        with self.assertRaises(BadChange):
            with bench.trial():
                bench.put(STRIKE)
                bench.put(None)
        self.assertEqual(state_of(bench), before)
        self.same(bench.put(STRIKE), 2)

    def test_trials_within_trials(self):
        bench = Bench(START)
        with bench.trial():
            bench.put(PUT)
            within = state_of(bench)
            with bench.trial() as inner:
                self.assertIs(inner, bench)
                self.same(bench.put(STRIKE), 2)
                with self.assertRaises(NoChange):
                    with bench.trial():
                        bench.take_back(1)
                        bench.take_back(1)
                self.same(len(bench), 2)
            self.assertEqual(state_of(bench), within)
            self.same(bench.put(PUT), 2)
        self.same((bench.standing, bench.log, len(bench)), ((), (), 0))
        self.same(bench.put(PUT), 1)

    def test_tried(self):
        bench = Bench(START)
        bench.put(PUT)
        before = state_of(bench)

        def work(given):
            self.assertIs(given, bench)
            given.put(STRIKE)
            given.take_back(1)
            return given.system.answers

        self.same(bench.tried(work), system_after(START, [STRIKE]).answers)
        self.assertEqual(state_of(bench), before)
        self.same(bench.tried(lambda given: given.tried(work)), system_after(START, [STRIKE]).answers)
        self.assertEqual(state_of(bench), before)

        def fail(given):
            given.put(STRIKE)
            raise LookupError("why")

        with self.assertRaises(LookupError):
            bench.tried(fail)
        self.assertEqual(state_of(bench), before)
        self.same(bench.put(STRIKE), 2)


if __name__ == "__main__":
    unittest.main()
