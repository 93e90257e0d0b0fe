"""Chapter 0, over the whole program: every error with its attributes, equality, tuples, and laws across the parts."""

import importlib
import inspect
import os
import random
import unittest

import risingcalls
from risingcalls import errors
from risingcalls.alike import Parting, are_alike, first_parting
from risingcalls.beaten import Beaten, beaten_by
from risingcalls.bench import Bench
from risingcalls.books import Book, moved_up
from risingcalls.changes import system_after
from risingcalls.costs import Costs, Weights, as_goals
from risingcalls.counts import least_told, told_count, told_within
from risingcalls.crowds import Crowd
from risingcalls.dear import worst_best
from risingcalls.deciding import Lost, Won, decide_goals
from risingcalls.decidingfoes import decide_foes, least_leap
from risingcalls.finding import NoHabit, find_habit
from risingcalls.foebooks import FoeBook
from risingcalls.foes import is_won_foes
from risingcalls.goals import Goals
from risingcalls.goaltext import read_goals
from risingcalls.habits import Habit, TwoWords, habit_of, system_of_habit
from risingcalls.joins import joined_systems
from risingcalls.judging import Fall, fall_of, system_fault
from risingcalls.knowing import first_told, trimmed_system
from risingcalls.making import NotRising, system_from
from risingcalls.marks import Marks
from risingcalls.mends import Spoiler, first_denied, least_mends
from risingcalls.mixtures import Mixture
from risingcalls.nearest import Fewest, fewest_changes
from risingcalls.prices import best_system, price_of
from risingcalls.rows import check_row
from risingcalls.rules import Rule
from risingcalls.silence import plain_part, with_silence
from risingcalls.slips import SlipClash, ended_rows, find_clash
from risingcalls.slipwins import decide_slips, is_slip_won, most_slips
from risingcalls.stands import check_stand, stop_wins
from risingcalls.systems import System
from risingcalls.systemtext import read_system, system_text
from risingcalls.talks import Gap, Talk, play_talk
from risingcalls.totals import excesses_of, total_of
from risingcalls.turned import renumbered_system
from risingcalls.unmaking import Clash, book_for
from risingcalls.watchers import Plan, Pool, Told, ask_plan, fitting
from risingcalls.winning import won_parts
from test_errors import ATTRIBUTES
from wonworlds import drawn_goals
from worlds import Case, answers_in, random_words, shape

GOALS = Goals(2, [[[0]], [[1, 2]]], (False, True))
SYSTEM = System((2, 1), 2, [((), 0, 0), ((), 1, 1), ((1,), 0, 0)])
HABIT = Habit((2, 1), 1, [[0, 0], [1, 0]], [[0, 0]])
BOOK = Book(Marks(["hue"], [[0]]), Marks(["hue"], [[0]]), [Rule(0)])

# one call for each error, and the values of its attributes
RAISED = {
    "BadGoals": (("knows",), lambda: Goals(0, [[[0]]], (1, 0))),
    "BadCouple": ((), lambda: play_talk(SYSTEM, (0, 1))),
    "BadLot": ((1,), lambda: GOALS.kept((0,), (1,))),
    "BadOrder": ((), lambda: Marks(["a"], [[0]]).renumbered((1,))),
    "BadSide": ((), lambda: BOOK.marks_of(2)),
    "BadMarks": ((1, "names"), lambda: Marks(["a", "a"], [])),
    "BadText": ((2, "missing"), lambda: read_goals("ladder 0")),
    "BadRow": ((), lambda: check_row((2, 1), 2, False)),
    "BadSystem": ((1, "twice"), lambda: System((1, 1), 0, [((), 0, 0), ((), 0, 0)])),
    "NoAnswer": (((2,),), lambda: SYSTEM.answer_for([2], 0)),
    "BadFoe": ((0,), lambda: play_talk(with_silence(SYSTEM), (0, 0), (3,))),
    "NotAlike": (("foes",), lambda: plain_part(SYSTEM)),
    "HasGap": (((1,), 0), lambda: first_told(SYSTEM.without_answer((1,), 0), (1, 0), 0)),
    "HasFoes": ((), lambda: habit_of(with_silence(SYSTEM))),
    "BadRule": (("own",), lambda: Rule(0, own=7)),
    "BadBook": ((0,), lambda: Book(BOOK.east_marks, BOOK.west_marks, [None])),
    "NoRule": ((1,), lambda: moved_up(BOOK, 1)),
    "BadLadder": ((), lambda: system_from(BOOK, 7)),
    "BadKind": ((), lambda: HABIT.word_at(0, 2, 0)),
    "BadRaise": ((), lambda: Rule(6).raised(1)),
    "BadStand": (("end",), lambda: check_stand(GOALS, ((0,), (0,), 3, 0))),
    "BadPart": ((), lambda: stop_wins(GOALS, ((0,), (0,), 0, 0), (1,))),
    "BadWord": ((3,), lambda: won_parts(GOALS, ((0,), (0,), 0, 0), 3)),
    "NotLost": (("leak",), lambda: fall_of(GOALS, [((0, 1), (0,), 0, 0)], SYSTEM)),
    "BadKinds": ((), lambda: least_told(0)),
    "BadEnds": ((), lambda: told_within(1, ends=(2,))),
    "BadEnd": ((), lambda: told_within(1, end=2)),
    "BadWords": ((), lambda: told_within(1, words=0)),
    "BadBranch": ((0, "call"), lambda: joined_systems(2, [(0, 2, SYSTEM)])),
    "BadLeap": ((), lambda: decide_foes(GOALS, 3)),
    "BadFoeBook": ((0, "word"), lambda: FoeBook(1, [((0,), 0)])),
    "BadCosts": (("cost",), lambda: Costs(0, [[[-1]]])),
    "BadWeights": (("size",), lambda: Weights([[1]]).times(1001)),
    "BadMixture": ((0, "shares"), lambda: Mixture([0], [SYSTEM])),
    "BadHabit": (("word",), lambda: HABIT.with_word(0, 0, 1, 1)),
    "TooWide": ((), lambda: find_habit(Goals.all_wanted((1, 1), 5))),
    "BadPool": ((1,), lambda: Pool([SYSTEM, None])),
    "BadTalk": ((0,), lambda: fitting(Pool([SYSTEM]), [None])),
    "BadMost": ((), lambda: find_clash(SYSTEM, -1)),
    "BadSlipStand": ((), lambda: is_slip_won(GOALS, None, 0)),
    "BadChange": ((0, "word"), lambda: system_after(SYSTEM, [("answer", (), 0, 3)])),
    "BadWish": ((1,), lambda: first_denied(SYSTEM, [("ends", 0), ("ends", 3)])),
    "NoChange": ((1,), lambda: Bench(SYSTEM).take_back(1)),
}
# one object of each class of the interface, made anew by each call
MADE = [
    lambda: GOALS.raised(0), lambda: Marks(["a"], [[0]]), lambda: SYSTEM.without_answer((2,), 0), lambda: Talk((0,), 0),
    lambda: Gap((0,), 0), lambda: Rule(0), lambda: Book(BOOK.east_marks, BOOK.west_marks, BOOK.rules),
    lambda: NotRising((), 0, 0), lambda: Clash((), 0, (), 0), lambda: Fall((), (), (0, 0), "gap"),
    lambda: Crowd((), (0,), "told"), lambda: Beaten((0, 0), (), "gap", ()), lambda: FoeBook(1, []),
    lambda: Costs(0, [[[0]]]), lambda: Weights([[0]]), lambda: Parting((0, 0), (), ()),
    lambda: Habit((1, 1), 0, [[0]], [[0]]), lambda: TwoWords(0, 0, (), ()), lambda: NoHabit(()),
    lambda: Pool([SYSTEM]), lambda: Told(()), lambda: Plan((0, 0), ()), lambda: SlipClash((), (0, 0), (0, 1)),
    lambda: Spoiler((), 0, 0), lambda: Fewest(0, ()),
]
MODULES = """errors basics goals marks goaltext rows systems talks heard turned systemtext rules books making unmaking
    stands winning deciding cores judging counts tellers crowds staircases bothways joins foes decidingfoes beaten silence
    foebooks beating foecounts costs prices totals mixtures dear alike knowing habits finding watchers slips slipwins
    changes mends nearest bench""".split()


class General(Case):
    def test_every_error_is_raised_with_its_attributes(self):
        self.assertEqual(sorted(RAISED), sorted(ATTRIBUTES))
        for name, (values, work) in RAISED.items():
            self.refused(getattr(errors, name)(*values), work)
            with self.assertRaises(errors.CallError) as caught:
                work()
            self.same(vars(caught.exception), dict(zip(ATTRIBUTES[name], values)))

    def test_objects_equal_those_of_their_class_alone(self):
        for at, made in enumerate(MADE):
            one, again = made(), made()
            self.assertTrue(one == again, one)
            self.assertFalse(one != again)
            others = [other() for place, other in enumerate(MADE) if place != at]
            self.unequal_to_all(one, [*others, None, 0, (), shape(one)])

    def test_all_modules_are_there(self):
        for name in MODULES:
            importlib.import_module(f"risingcalls.{name}")
        found = {name[:-3] for name in os.listdir(os.path.dirname(risingcalls.__file__)) if name.endswith(".py")}
        self.assertLessEqual(set(MODULES), found)

    def test_attributes_that_are_sequences_are_tuples(self):
        for made in MADE:
            for name, thing in vars(made()).items():
                if not name.startswith("_"):
                    self.assertNotIsInstance(thing, (list, dict, set), (made(), name))

    def test_errors_are_the_only_ones_that_are_raised(self):
        for name in MODULES:
            module = importlib.import_module(f"risingcalls.{name}")
            own = [thing for _, thing in inspect.getmembers(module, inspect.isclass) if issubclass(thing, Exception)]
            self.assertTrue(all(thing.__module__ == "risingcalls.errors" for thing in own), name)


class Laws(Case):
    """What the parts say of each other."""

    def worlds(self, seed, many=25):
        rng = random.Random(seed)
        for _ in range(many):
            sides, ladder = rng.choice([((1, 1), 3), ((2, 1), 2), ((1, 2), 3), ((2, 2), 2), ((2, 2), 3), ((3, 2), 2)])
            yield rng, drawn_goals(rng, sides, ladder, rng.choice((0.6, 0.9)))

    def test_all_ways_to_decide_agree(self):
        counts = {True: 0, False: 0}
        for _, goals in self.worlds(1011, 60):
            won = isinstance(decide_goals(goals), Won)
            counts[won] += 1
            first = (tuple(range(goals.sides[0])), tuple(range(goals.sides[1])), 0, 0)
            self.same(is_won_foes(goals, first, 0), won)
            self.same(least_leap(goals) == 0, not won)
            self.same(isinstance(find_habit(goals), Habit), won)
            self.same(isinstance(decide_slips(goals, 0), Won), won)
            self.same(most_slips(goals) is not None, won)
            empty = System(goals.sides, goals.ladder, [])
            self.same(fewest_changes(goals, empty) is not None, won)
            # costs of 0 for wanted ends and 1 for others
            lines = [[[int(end not in ends) for end in range(goals.ladder + 1)] for ends in line] for line in goals.wanted]
            if goals.knows == (False, False):
                costs = Costs(goals.ladder, lines)
                self.same(best_system(costs, Weights.even(goals.sides)).total == 0, won)
                self.same(worst_best(costs).cost == 0, won)
        self.assertGreater(min(counts.values()), 10)

    def test_a_system_that_wins_wins_wherever_it_is_judged(self):
        for rng, goals in self.worlds(1012, 60):
            result = decide_goals(goals)
            if isinstance(result, Lost):
                continue
            system = result.system
            self.assertIsNone(system_fault(goals, system))
            self.assertIsNone(beaten_by(goals, with_silence(system), 0))
            self.same(first_denied(system, [("won", goals), ("slips", goals, 0)]), None)
            self.same(fewest_changes(goals, system), Fewest(0, ()))
            self.assertTrue(trimmed_system(system) == system)
            self.assertTrue(read_system(system_text(system)) == system)
            side = rng.randint(0, 1)
            order = rng.sample(range(goals.sides[side]), goals.sides[side])
            turned = renumbered_system(system, side, order)
            self.assertIsNone(system_fault(goals.renumbered(side, order), turned))
            marks = [Marks(["no"], [[kind] for kind in range(many)]) for many in goals.sides]
            self.assertTrue(system_from(book_for(system, *marks), goals.ladder) == system)

    def test_prices_totals_and_changes(self):
        for rng, goals in self.worlds(1013):
            costs = Costs(goals.ladder, [[[rng.randint(0, 5) for _ in range(goals.ladder + 1)] for _ in line]
                                         for line in goals.wanted])
            weights = Weights([[rng.randint(0, 3) for _ in line] for line in goals.wanted])
            best = best_system(costs, weights)
            self.same(total_of(costs, weights, best.system), best.total)
            self.same(sum(excess for _, excess in excesses_of(costs, weights, best.system)), 0)
            first = (tuple(range(goals.sides[0])), tuple(range(goals.sides[1])), 0, 0)
            self.same(price_of(costs, weights, first), best.total)
            cost = worst_best(costs).cost
            self.assertIs(type(decide_goals(as_goals(costs, cost))), Won)
            words = random_words(rng, goals.sides, goals.ladder, False)
            system = System(goals.sides, goals.ladder, answers_in(words))
            wish = ("total", costs, weights, best.total)
            pool = [("answer", row, kind, word) for row, kind, word in best.system.answers][:5]
            for pick in least_mends(system, pool, [wish]):
                bench = Bench(system)
                for place in pick:
                    bench.put(pool[place])
                self.same(total_of(costs, weights, bench.system), best.total)

    def test_systems_that_a_plan_tells_apart(self):
        for rng, goals in self.worlds(1014):
            systems = [System(goals.sides, goals.ladder, answers_in(random_words(rng, goals.sides, goals.ladder, False)))
                       for _ in range(rng.randint(2, 4))]
            plan = ask_plan(Pool(systems))
            told = [plan]
            while any(isinstance(one, Plan) for one in told):
                told = [pair[1] for one in told if isinstance(one, Plan) for pair in one.onward] + [
                    one for one in told if isinstance(one, Told)]
            for one in told:
                for number in one.numbers[1:]:
                    # talks of plain systems tell all that there is to tell
                    self.assertTrue(are_alike(systems[one.numbers[0]], systems[number]))
            if len(told) == len(systems):
                self.assertIsNotNone(first_parting(systems[0], systems[1]))

    def test_habits_rows_and_counts(self):
        for ladder in range(7):
            self.same(len([row for row in ended_rows(ladder)]), 2 ** ladder)
            self.same(told_count(ladder), told_within(ladder))
        self.assertTrue(system_of_habit(HABIT) == System((2, 1), 1, [((), 0, 0), ((), 1, 1), ((1,), 0, 0)]))


if __name__ == "__main__":
    unittest.main()
