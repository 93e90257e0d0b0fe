"""[3.13]: books for systems."""

import itertools
import random
import unittest

from bookworlds import some_book, some_marks, told_situation
from risingcalls.books import RULES_MOST, Book
from risingcalls.errors import BadBook, NotAlike
from risingcalls.heard import gaps_of, lots_at, rows_of
from risingcalls.making import system_from
from risingcalls.marks import Marks
from risingcalls.rules import Rule
from risingcalls.systems import System
from risingcalls.talks import Gap, Talk
from risingcalls.unmaking import Clash, book_for
from worlds import Case, answers_in, partner_rows, told_rows, told_speaker, told_words, worlds

ONE = Marks(["a"], [[0]])
TWO = Marks(["a"], [[0], [1]])


def needed(system):
    """The needed answers, in the order of the system's answers."""
    coming = set(rows_of(system))
    return [(row, kind, word) for row, kind, word in system.answers
            if row in coming and kind in lots_at(system, row)[told_speaker(row, system.foes)]]


def view(system, marks, row, kind, memory):
    speaker, own, other, foe, standing = told_situation(row, system.foes)
    seen = (own, other, foe) if memory else (None, None, None)
    return (speaker, *seen, standing, marks[speaker].lines[kind])


def told_result(system, marks, memory):
    """The Book, Clash or Gap, or None if there are too many views, as the words of [3.13] tell."""
    if gaps_of(system):
        return gaps_of(system)[0]
    earlier = []
    rules = []
    for row, kind, word in needed(system):
        seen = view(system, marks, row, kind, memory)
        same = [answer for answer in earlier if view(system, marks, *answer[:2], memory) == seen]
        if any(answer[2] != word for answer in same):
            return Clash(row, kind, same[0][0], same[0][1])
        if not same:
            speaker, own, other, foe, standing, numbers = seen
            tests = [(name, number, number) for name, number in zip(marks[speaker].names, numbers)]
            rules.append(Rule(word, tests, own, other, foe, standing, standing, speaker))
        earlier.append((row, kind, word))
    return Book(*marks, rules) if len(rules) <= 40 else None


def systems(seed, ladders, shares=(0.8, 1.0, 1.0)):
    for foes, most in ((False, 6), (True, 2)):
        for sides, ladder, _, words in worlds(seed, ladders, [(1, 1), (2, 1), (2, 2), (3, 2)], (foes,), shares):
            if ladder <= most:
                yield System(sides, ladder, answers_in(words), foes)


class Books(Case):
    def test_the_result_for_many_systems_and_marks(self):
        rng = random.Random(71)
        counts = {}
        for system in systems(72, (0, 1, 2, 3)):
            for most in (0, 2, 40):
                marks = [some_marks(rng, kinds, most) for kinds in system.sides]
                for memory in (True, False):
                    wanted = told_result(system, marks, memory)
                    counts[type(wanted), memory] = counts.get((type(wanted), memory), 0) + 1
                    if wanted is None:
                        self.refused(BadBook(None), book_for, system, *marks, memory=memory)
                    else:
                        self.same(book_for(system, *marks, memory=memory), wanted)
        for kind in (Book, Clash, Gap):
            self.assertGreater(min(counts.get((kind, memory), 0) for memory in (True, False)), 15)

    def test_the_book_has_the_system(self):
        rng = random.Random(73)
        found = {True: 0, False: 0}
        for system in systems(74, (0, 1, 2, 3), shares=(1.0,)):
            marks = [some_marks(rng, kinds, 40) for kinds in system.sides]
            for memory in (True, False):
                book = book_for(system, *marks, memory=memory)
                if isinstance(book, Book):
                    found[memory] += 1
                    wanted = System(system.sides, system.ladder, needed(system), system.foes)
                    self.same(system_from(book, system.ladder, system.foes), wanted)
                    if not memory:
                        self.assertEqual({(rule.own, rule.other, rule.foe) for rule in book}, {(None, None, None)})
        self.assertGreater(min(found.values()), 10)

    def test_a_system_made_of_a_book_has_a_book(self):
        rng = random.Random(75)
        counts = {True: 0, False: 0}
        for foes, ladder in ((False, 3), (True, 2)):
            for _ in range(150):
                book = some_book(rng, ladder, foes)
                forgets = rng.random() < 0.5
                if forgets:
                    rules = [Rule(rule.word, rule.tests, None, None, None, rule.low, rule.high, rule.side) for rule in book]
                    book = Book(book.east_marks, book.west_marks, rules)
                system = system_from(book, ladder, foes)
                if isinstance(system, System):
                    for memory in (True, False) if forgets else (True,):
                        found = book_for(system, book.east_marks, book.west_marks, memory=memory)
                        self.same(system_from(found, ladder, foes), system)
                        counts[memory] += 1
        self.assertGreater(min(counts.values()), 5)

    def test_a_named_book(self):
        marks = Marks(["b", "a"], [[3, 0], [3, 1]])
        system = System((2, 1), 2, [((), 0, 1), ((), 1, 0), ((1,), 0, 0), ((2,), 0, 0)])
        self.same(book_for(system, marks, ONE), Book(marks, ONE, [
            Rule(1, (("b", 3, 3), ("a", 0, 0)), "none", "none", "none", 0, 0, 0),
            Rule(0, (("b", 3, 3), ("a", 1, 1)), "none", "none", "none", 0, 0, 0),
            Rule(0, (("a", 0, 0),), "none", 1, "none", 1, 1, 1),
        ]))
        self.same(book_for(system, marks, ONE, memory=False), Book(marks, ONE, [
            Rule(1, (("b", 3, 3), ("a", 0, 0)), None, None, None, 0, 0, 0),
            Rule(0, (("b", 3, 3), ("a", 1, 1)), None, None, None, 0, 0, 0),
            Rule(0, (("a", 0, 0),), None, None, None, 1, 1, 1),
        ]))

    def test_a_clash_of_kinds_alike(self):
        alike = Marks(["a"], [[0], [0]])
        system = System((2, 1), 1, [((), 0, 0), ((), 1, 1), ((1,), 0, 0)])
        self.same(book_for(system, alike, ONE), Clash((), 1, (), 0))
        self.assertIsInstance(book_for(system, TWO, ONE), Book)

    def test_memory_tells_rows_apart(self):
        system = System((2, 1), 2, [((), 0, 0), ((), 1, 1), ((0, 1), 0, 2), ((0, 2), 0, 0), ((1, 0), 0, 0),
                                    ((1, 2), 0, 0), ((0, 1, 2, 0), 0, 0), ((1, 0, 0, 2), 1, 0)], True)
        self.same(book_for(system, TWO, ONE, memory=False), Clash((1, 0), 0, (0, 1), 0))
        self.assertEqual(len(book_for(system, TWO, ONE)), 8)
        self.same(book_for(system, TWO, ONE), book_for(system, TWO, ONE, memory=True))

    def test_gaps_that_cannot_come_do_no_harm(self):
        system = System((1, 1), 2, [((), 0, 0), ((1, 2), 0, 0)])
        self.same(book_for(system, ONE, ONE), Book(ONE, ONE, [
            Rule(0, (("a", 0, 0),), "none", "none", "none", 0, 0, 0)]))

    def test_the_first_gap_comes_ahead_of_clashes_and_of_too_many_views(self):
        alike = Marks(["a"], [[0], [0]])
        system = System((2, 1), 2, [((), 0, 0), ((), 1, 1)])
        self.same(book_for(system, alike, ONE), Gap((1,), 0))
        self.same(book_for(System((2, 1), 2, []), alike, ONE), Gap((), 0))


class Views(Case):
    def systems_by_views(self):
        """Yield (number of views, system): whole systems against foes without a clash for marks of two kinds."""
        rng = random.Random(77)
        seen_at = {row: told_situation(row, True) for row in partner_rows(4, True)}
        for _ in range(1000):
            words, chosen = {}, {}
            for row, kind in itertools.product(seen_at, range(2)):
                let = told_words(row, 4)
                words[row, kind] = chosen.setdefault((seen_at[row], kind), rng.choice(let[:3]))
            system = System((2, 2), 4, answers_in(words), True)
            yield len({(seen_at[row], kind) for row, kind, _ in needed(system)}), system

    def system_with_views(self, many):
        for number, system in self.systems_by_views():
            if number == many:
                return system
        return self.fail("no such system")

    def test_forty_views_make_a_book_and_more_are_refused(self):
        system = self.system_with_views(RULES_MOST)
        book = book_for(system, TWO, TWO)
        self.assertEqual((len(book), RULES_MOST), (40, 40))
        self.same(system_from(book, 4, True).answers, tuple(needed(system)))
        for many in (41, 42):
            self.refused(BadBook(None), book_for, self.system_with_views(many), TWO, TWO)

    def test_a_clash_comes_ahead_of_too_many_views(self):
        for number, system in self.systems_by_views():
            views = {}
            for row, kind, word in needed(system) if number > 40 else ():
                views.setdefault((told_situation(row, True), kind), []).append((row, kind, word))
            repeated = [answers[-1] for answers in views.values() if len(answers) > 1]
            for row, kind, word in [answer for answer in repeated if max(answer[0]) < 4]:
                changed = system.with_answer(row, kind, 0 if word else 4)
                wanted = told_result(changed, (TWO, TWO), True)
                self.assertIsInstance(wanted, Clash)
                self.same(book_for(changed, TWO, TWO), wanted)
                return
        self.fail("no such system")


class Refusing(Case):
    def test_marks_of_other_sides(self):
        system = System((2, 1), 1, [])
        for marks in ((ONE, ONE), (TWO, TWO), (ONE, TWO), (Marks(["a"], [[0]] * 3), ONE)):
            for memory in (True, False):
                self.refused(NotAlike("sides"), book_for, system, *marks, memory=memory)
        self.same(book_for(system, TWO, ONE), Gap((), 0))

    def test_a_clash_is_a_result(self):
        for value in (None, [1], "x"):
            clash = Clash(value, value, value, value)
            self.assertTrue(all(part is value for part in vars(clash).values()))
        clash = Clash((1,), 0, (2,), 1)
        self.same((clash.row, clash.kind, clash.other_row, clash.other_kind), ((1,), 0, (2,), 1))
        self.assertTrue(clash == Clash((1,), 0, (2,), 1))
        self.unequal_to_all(clash, [Clash((2,), 0, (2,), 1), Clash((1,), 1, (2,), 1), Clash((1,), 0, (1,), 1),
                                    Clash((1,), 0, (2,), 0), Talk((1,), 0), ((1,), 0, (2,), 1), None])


if __name__ == "__main__":
    unittest.main()
