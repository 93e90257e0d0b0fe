"""[1.9], [1.10]: texts of goals."""

import random
import unittest

from risingcalls.errors import BadText
from risingcalls.goals import Goals
from risingcalls.goaltext import goals_text, read_goals
from test_goals import many_goals, some_goals
from worlds import Case, changed_texts

TEXT = "ladder 3\nsides 2 2\nknows yes no\n0 0: -3 0 3\n0 1: 1\n1 0: -2 -1\n1 1: 0 1 2"
GOALS = Goals(3, [[[-3, 0, 3], [1]], [[-2, -1], [0, 1, 2]]], (True, False))


def with_line(number, line, text=TEXT):
    lines = text.split("\n")
    lines[number - 1] = line
    return "\n".join(lines)


class Writing(Case):
    def test_the_text(self):
        self.same(goals_text(GOALS), TEXT)
        self.same(goals_text(Goals(0, [[[0]]], (False, True))), "ladder 0\nsides 1 1\nknows no yes\n0 0: 0")
        self.same(goals_text(Goals(6, [[[6, -6]], [[0]]])), "ladder 6\nsides 2 1\nknows no no\n0 0: -6 6\n1 0: 0")

    def test_reading_gives_the_goals_back(self):
        for goals in many_goals(8):
            text = goals_text(goals)
            found = read_goals(text)
            self.assertTrue(found == goals)
            self.same((found.wanted, found.knows, found.ladder), (goals.wanted, goals.knows, goals.ladder))
            self.same(goals_text(found), text)


class Reading(Case):
    def wrong(self, number, what, text):
        self.refused(BadText(number, what), read_goals, text)

    def test_missing_lines(self):
        lines = TEXT.split("\n")
        for many in range(1, 7):
            self.wrong(many + 1, "missing", "\n".join(lines[:many]))

    def test_empty_lines(self):
        self.wrong(1, "form", "")
        self.wrong(1, "form", "\n" + TEXT)
        self.wrong(2, "form", "ladder 3\n")
        for number in range(1, 8):
            self.wrong(number, "form", with_line(number, ""))
        self.wrong(8, "more", TEXT + "\n")

    def test_more_lines(self):
        for line in ("", " ", "1 1: 0 1 2", "2 0: 0", "anything", "\n"):
            self.wrong(8, "more", TEXT + "\n" + line)

    def test_form_of_the_ladder(self):
        for line in ("ladder", "ladder ", "ladder  3", "Ladder 3", "ladder 3 ", " ladder 3", "ladder 3 3", "ladder +3",
                     "ladder 03", "ladder -0", "ladder -1", "ladder x", "ladder 3.", "ladder 1234567", "ladder 3\r",
                     "ladder\t3", "ladder: 3", "ladder \u0663", "ladder \u00b2", "ladder 00", "3", "sides 3",
                     "ladder None"):
            self.wrong(1, "form", with_line(1, line))

    def test_no_sign_but_the_figures_writes_a_number(self):
        for sign in [chr(code) for code in range(32, 400) if chr(code) not in "0123456789"]:
            self.wrong(1, "form", with_line(1, f"ladder {sign}"))
            self.wrong(2, "form", with_line(2, f"sides 2 {sign}"))
            self.wrong(5, "form", with_line(5, f"0 1: {sign}"))
            self.wrong(5, "form", with_line(5, f"0 1: -1{sign}"))

    def test_range_of_the_ladder(self):
        for line in ("ladder 7", "ladder 10", "ladder 123456", "ladder 999999"):
            self.wrong(1, "range", with_line(1, line))

    def test_all_ladders(self):
        for ladder in range(7):
            text = f"ladder {ladder}\nsides 1 1\nknows no no\n0 0: 0"
            self.assertTrue(read_goals(text) == Goals(ladder, [[[0]]]))

    def test_form_of_the_sides(self):
        for line in ("sides 2", "sides 2 2 2", "sides  2 2", "sides 2  2", "sides 2 2 ", "side 2 2", "sides 2 x",
                     "sides +2 2", "sides 02 2", "sides 2 -1", "sides -0 2", "sides 2 1234567", "sides 2,2"):
            self.wrong(2, "form", with_line(2, line))

    def test_range_of_the_sides(self):
        for line in ("sides 0 2", "sides 2 0", "sides 7 1", "sides 1 7", "sides 3 5", "sides 123456 1"):
            self.wrong(2, "range", with_line(2, line))

    def test_form_of_the_knows(self):
        for line in ("knows yes", "knows yes no no", "knows yes  no", "knows Yes no", "knows 1 0", "knows True False",
                     "know yes no", "knows yes no ", "knows yes,no", "knows y n"):
            self.wrong(3, "form", with_line(3, line))

    def test_form_of_the_couples(self):
        for line in ("0 1:", "0 1: ", "0 1 1", "0 1 : 1", "0 1:1", "0 1:  1", "0 1: 1 ", " 0 1: 1", "0  1: 1",
                     "0 1: +1", "0 1: 01", "0 1: -0", "0 1: -01", "0 1: --1", "0 1: 1 x", "0 1: 1, 2", "0 1: 1: 2",
                     "0: 1", "0 1 0: 1", "-0 1: 1", "00 1: 1", "0 +1: 1", "0 1: 1234567", "0 1: -1234567", "0 -1: 1",
                     "0 1: -", "0 1: 1 -", "0 1: - 1", "x 1: 1", "0 1: 1\r", "0 1: \u0661"):
            self.wrong(5, "form", with_line(5, line))

    def test_wrong_couples(self):
        for line in ("0 0: 1", "1 0: 1", "1 1: 1", "0 2: 1", "5 5: 1", "123456 1: 1", "0 0: 9", "1 0: 2 1"):
            self.wrong(5, "couple", with_line(5, line))
        self.wrong(4, "couple", with_line(4, "0 1: 0"))
        self.wrong(7, "couple", with_line(7, "1 0: 0"))

    def test_range_of_the_ends(self):
        for line in ("0 1: 4", "0 1: -4", "0 1: 0 4", "0 1: -4 0", "0 1: 4 3", "0 1: 999999", "0 1: -999999", "0 1: 3 -4"):
            self.wrong(5, "range", with_line(5, line))

    def test_order_of_the_ends(self):
        for line in ("0 1: 1 0", "0 1: 1 1", "0 1: 0 -1", "0 1: -3 3 2", "0 1: 0 0", "0 1: -1 -2"):
            self.wrong(5, "order", with_line(5, line))

    def test_the_first_wrong_line_counts(self):
        self.wrong(1, "range", "ladder 9\nsides 9 9\nknows a b")
        self.wrong(2, "range", with_line(5, "", with_line(2, "sides 9 9")))
        self.wrong(3, "form", with_line(3, "knows") + "\nmore")
        self.wrong(6, "order", with_line(6, "1 0: 1 0") + "\nmore")
        self.wrong(7, "form", with_line(7, "1 1:") + "\nmore")
        self.wrong(5, "form", with_line(5, "1 1: 9 8 x"))

    def test_a_text_is_read_exactly_if_it_is_a_text_of_goals(self):
        rng = random.Random(9)
        texts = [goals_text(some_goals(rng, sides, ladder)) for sides in [(1, 1), (1, 2), (2, 1)] for ladder in (1, 2)
                 for _ in range(20)]
        read = 0
        for text in changed_texts(rng, texts, 6000, "0123 -\n:yesno"):
            try:
                goals = read_goals(text)
            except BadText:
                continue
            read += 1
            self.same(goals_text(goals), text)
        self.assertGreater(read, 20)


if __name__ == "__main__":
    unittest.main()
