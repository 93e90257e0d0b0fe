"""[1.7], [1.8]: marks, groups and least names."""

import itertools
import random
import unittest

from risingcalls.errors import BadKind, BadMarks, BadOrder
from risingcalls.marks import Marks, groups_by, least_names
from worlds import NO_SEQUENCE, NO_WHOLE, Case, listed, spoil

NAMES = ("hue", "x", "abcdefgh", "zz")
LINES = ((1, 0, 40, 7), (1, 2, 40, 7), (0, 2, 3, 7))
NO_NAMES = (*(thing for thing in NO_WHOLE if thing != "1"), "", "abcdefghi", "A", "a b", "a1", "1", "_", "a\n", "-",
            "\u00e9", "hu\u00e9", ["hue"], 3, "{", "`")


def some_marks(rng):
    names = rng.sample(["a", "b", "cc", "dd", "e"], rng.randint(1, 4))
    top = rng.choice((1, 2, 40))
    return Marks(names, [[rng.randint(0, top) for _ in names] for _ in range(rng.randint(1, 6))])


def told_groups(marks, names):
    lots = []
    for kind in range(marks.kinds):
        for lot in lots:
            if all(marks.value_of(lot[0], name) == marks.value_of(kind, name) for name in names):
                lot.append(kind)
                break
        else:
            lots.append([kind])
    return tuple(tuple(lot) for lot in lots)


def tells_apart(marks, names):
    return {(one, two) for one in range(marks.kinds) for two in range(marks.kinds)
            if any(marks.value_of(one, name) != marks.value_of(two, name) for name in names)}


class Making(Case):
    def test_attributes_are_tuples(self):
        for names, lines in ((NAMES, LINES), (listed(NAMES), listed(LINES))):
            marks = Marks(names, lines)
            self.same((marks.names, marks.lines, marks.kinds), (NAMES, LINES, 3))

    def test_numbers_of_names_and_of_lines(self):
        for many, kinds in itertools.product(range(1, 5), range(1, 7)):
            marks = Marks(NAMES[:many], [[kind] * many for kind in range(kinds)])
            self.same((len(marks.names), marks.kinds), (many, kinds))

    def test_wrong_names_as_a_whole(self):
        for names in (*NO_SEQUENCE, (), [], ("a", "b", "c", "d", "e")):
            self.refused(BadMarks(None, "names"), Marks, names, [[1]])
            self.refused(BadMarks(None, "names"), Marks, names, None)

    def test_wrong_single_names(self):
        for odd in NO_NAMES:
            self.refused(BadMarks(0, "names"), Marks, [odd], [[1]])
            self.refused(BadMarks(2, "names"), Marks, ["a", "b", odd, odd], [[1, 1, 1, 1]])
        self.refused(BadMarks(1, "names"), Marks, ["a", "a"], [[1, 1]])
        self.refused(BadMarks(3, "names"), Marks, ["a", "b", "c", "a"], None)
        self.refused(BadMarks(1, "names"), Marks, ["a", "a", ""], None)
        self.refused(BadMarks(0, "names"), Marks, ["", "a", "a"], None)

    def test_the_first_and_the_last_letter(self):
        self.same(Marks(["a", "z", "az", "zzzzzzzz"], [[0, 1, 2, 3]]).names, ("a", "z", "az", "zzzzzzzz"))

    def test_wrong_lines(self):
        for lines in (*NO_SEQUENCE, (), [], [[1]] * 7):
            self.refused(BadMarks(None, "lines"), Marks, ["a"], lines)
        for odd in (*NO_SEQUENCE, (), [], [1, 1], (1, 1)):
            self.refused(BadMarks(0, "line"), Marks, ["a"], [odd])
            self.refused(BadMarks(1, "line"), Marks, ["a"], [[40], odd, [41]])
        for odd in (*NO_WHOLE, -1, 41):
            self.refused(BadMarks(0, "number"), Marks, ["a"], [[odd]])
            self.refused(BadMarks(2, "number"), Marks, ["a", "b"], [[0, 40], [40, 0], [3, odd]])

    def test_of_two_faults_the_first_one_counts(self):
        self.refused(BadMarks(0, "number"), Marks, ["a"], [[41], []])
        self.refused(BadMarks(0, "line"), Marks, ["a"], [[41, 41], [41]])
        self.refused(BadMarks(1, "names"), Marks, ["a", "a"], [[41]])

    def test_later_changes_have_no_effect(self):
        names, lines = listed(NAMES), listed(LINES)
        marks = Marks(names, lines)
        self.same((names, lines), (listed(NAMES), listed(LINES)))
        spoil(names)
        spoil(lines)
        self.same((marks.names, marks.lines, marks.kinds), (NAMES, LINES, 3))

    def test_equality(self):
        marks = Marks(NAMES, LINES)
        self.assertTrue(marks == Marks(listed(NAMES), listed(LINES)))
        self.unequal_to_all(marks, [
            Marks(NAMES[::-1], LINES), Marks(NAMES, LINES[::-1]), Marks(NAMES, LINES[:2]), None, (NAMES, LINES), "hue",
        ])


class Asking(Case):
    def test_value_of_each_kind_and_name(self):
        marks = Marks(NAMES, LINES)
        for kind, line in enumerate(LINES):
            for name, number in zip(NAMES, line):
                self.same(marks.value_of(kind, name), number)
            for name in ("hu", "", "y", None, 1, ["hue"], ()):
                self.same(marks.value_of(kind, name), None)

    def test_value_of_refuses_wrong_kinds_first(self):
        marks = Marks(NAMES, LINES)
        for kind in (*NO_WHOLE, -1, 3):
            self.refused(BadKind(), marks.value_of, kind, "hue")
            self.refused(BadKind(), marks.value_of, kind, "none")

    def test_kinds_with_all_bounds(self):
        marks = Marks(["a", "b"], [[0, 5], [2, 4], [1, 4], [2, 0]])
        for name, at in (("a", 0), ("b", 1)):
            for least, most in itertools.product(range(-1, 7), repeat=2):
                wanted = tuple(kind for kind, line in enumerate(marks.lines) if line[at] in range(least, most + 1))
                self.same(marks.kinds_with(name, least, most), wanted)
        self.same(marks.kinds_with("a", 0, 40), (0, 1, 2, 3))
        self.same(marks.kinds_with("c", 0, 40), ())

    def test_renumbered_for_all_orders(self):
        marks = Marks(NAMES, LINES)
        for order in itertools.permutations(range(3)):
            self.same(marks.renumbered(list(order)).lines, tuple(LINES[kind] for kind in order))
            self.same(marks.renumbered(order).names, NAMES)
        self.assertTrue(marks == Marks(NAMES, LINES))

    def test_renumbered_refuses(self):
        marks = Marks(NAMES, LINES)
        for odd in (*NO_SEQUENCE, (), (0, 1), (0, 1, 1), (0, 1, 3), (0, True, 2), (0, 1, 2, 3), (-1, 0, 1)):
            self.refused(BadOrder(), marks.renumbered, odd)


    def test_renumbered_does_not_keep_the_order(self):
        order = [2, 0, 1]
        found = Marks(NAMES, LINES).renumbered(order)
        self.same(order, [2, 0, 1])
        spoil(order)
        self.same(found.lines, (LINES[2], LINES[0], LINES[1]))


class Groups(Case):
    def test_groups_by_some_names(self):
        marks = Marks(["a", "b"], [[1, 1], [0, 1], [1, 0], [1, 1], [0, 0]])
        self.same(groups_by(marks, ["a"]), ((0, 2, 3), (1, 4)))
        self.same(groups_by(marks, ("b",)), ((0, 1, 3), (2, 4)))
        self.same(groups_by(marks, ["b", "a"]), ((0, 3), (1,), (2,), (4,)))
        self.same(groups_by(marks, ["a", "c", "a"]), ((0, 2, 3), (1, 4)))
        self.same(groups_by(marks, ()), ((0, 1, 2, 3, 4),))
        self.same(groups_by(marks, ["c"]), ((0, 1, 2, 3, 4),))

    def test_two_kinds_are_in_one_lot_exactly_if_their_numbers_agree(self):
        rng = random.Random(1)
        for _ in range(200):
            marks = some_marks(rng)
            for size in range(len(marks.names) + 1):
                for names in itertools.combinations(marks.names, size):
                    self.same(groups_by(marks, list(names)), told_groups(marks, names))
                    self.same(groups_by(marks, [*names[::-1], "no"]), told_groups(marks, names))

    def test_least_names_for_small_marks(self):
        self.same(least_names(Marks(["a"], [[0], [0]])), ((),))
        self.same(least_names(Marks(["a"], [[0], [1]])), (("a",),))
        self.same(least_names(Marks(["b", "a"], [[0, 0], [1, 1]])), (("b",), ("a",)))
        self.same(least_names(Marks(["b", "a"], [[0, 0], [0, 1], [1, 0]])), (("b", "a"),))
        self.same(least_names(Marks(["c", "b", "a"], [[0, 0, 0], [0, 1, 1], [1, 0, 2]])), (("a",), ("c", "b")))

    def test_least_names_are_all_least_picks_in_their_order(self):
        rng = random.Random(2)
        lengths = {}
        for _ in range(300):
            marks = some_marks(rng)
            apart = tells_apart(marks, marks.names)
            wanted = []
            for size in range(len(marks.names) + 1):
                for pick in itertools.combinations(marks.names, size):
                    lesser = [less for few in range(size) for less in itertools.combinations(pick, few)]
                    if tells_apart(marks, pick) == apart and all(tells_apart(marks, less) != apart for less in lesser):
                        wanted.append(pick)
            self.same(least_names(marks), tuple(wanted))
            lengths.setdefault(tuple(sorted({len(pick) for pick in wanted})), 0)
        self.assertIn((1, 2), lengths)
        self.assertIn((2,), lengths)


if __name__ == "__main__":
    unittest.main()
