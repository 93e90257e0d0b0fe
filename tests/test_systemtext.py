"""[1.11], [1.12]: texts of systems."""

import random
import unittest

from risingcalls.errors import BadText
from risingcalls.systems import System
from risingcalls.systemtext import read_system, system_text
from worlds import ALL_SIDES, Case, answers_in, changed_texts, worlds

PLAIN = System((2, 2), 3, [((), 0, 1), ((), 1, 0), ((1,), 0, 2), ((1,), 1, 0), ((1, 2), 0, 3), ((2,), 1, 3)])
PLAIN_TEXT = """ladder 3
sides 2 2
foes no
- | 0: 1
- | 1: 0
1 | 0: 2
1 | 1: 0
2 | 1: 3
1 2 | 0: 3"""
FOES = System((1, 2), 3, [((), 0, 1), ((1, 0), 1, 2), ((1, 0, 2, 3), 0, 0)], True)
FOES_TEXT = "ladder 3\nsides 1 2\nfoes yes\n- | 0: 1\n1 0 | 1: 2\n1 0 2 3 | 0: 0"


def with_line(number, line, text=PLAIN_TEXT):
    lines = text.split("\n")
    lines[number - 1] = line
    return "\n".join(lines)


class Writing(Case):
    def test_the_text(self):
        self.same(system_text(PLAIN), PLAIN_TEXT)
        self.same(system_text(FOES), FOES_TEXT)
        self.same(system_text(System((6, 2), 0, [])), "ladder 0\nsides 6 2\nfoes no")

    def test_reading_gives_the_system_back(self):
        many = list(worlds(31, (0, 1, 2, 3), [(1, 1), (2, 1), (2, 2), (3, 4)]))
        many += list(worlds(32, (6,), [(6, 2)], foes=(False,)))
        for sides, ladder, foes, words in many:
            system = System(sides, ladder, answers_in(words), foes)
            text = system_text(system)
            found = read_system(text)
            self.assertTrue(found == system)
            self.same((found.answers, found.foes, found.sides), (system.answers, foes, sides))
            self.same(system_text(found), text)

    def test_systems_without_an_answer(self):
        for sides in ALL_SIDES:
            for ladder in range(7):
                for foes, word in ((False, "no"), (True, "yes")):
                    text = f"ladder {ladder}\nsides {sides[0]} {sides[1]}\nfoes {word}"
                    self.assertTrue(read_system(text) == System(sides, ladder, [], foes))
                    self.same(system_text(System(sides, ladder, [], foes)), text)


class Reading(Case):
    def wrong(self, number, what, text):
        self.refused(BadText(number, what), read_system, text)

    def test_missing_lines(self):
        lines = PLAIN_TEXT.split("\n")
        self.wrong(2, "missing", lines[0])
        self.wrong(3, "missing", "\n".join(lines[:2]))

    def test_empty_lines(self):
        self.wrong(1, "form", "")
        for number in range(1, 10):
            self.wrong(number, "form", with_line(number, ""))
        self.wrong(10, "form", PLAIN_TEXT + "\n")
        self.wrong(4, "form", "ladder 0\nsides 1 1\nfoes no\n")

    def test_the_first_three_lines(self):
        for line in ("ladder", "ladder 03", "ladder +3", "ladder -1", "ladder  3", "ladder 3 ", "Ladder 3",
                     "ladder 1234567", "ladder 3\r"):
            self.wrong(1, "form", with_line(1, line))
        for line in ("ladder 7", "ladder 999999"):
            self.wrong(1, "range", with_line(1, line))
        for line in ("sides 2", "sides 2 2 2", "sides 2  2", "side 2 2", "sides 02 2", "sides 2 -2"):
            self.wrong(2, "form", with_line(2, line))
        for line in ("sides 0 2", "sides 7 1", "sides 4 4", "sides 2 123456"):
            self.wrong(2, "range", with_line(2, line))
        for line in ("foes", "foes ", "foes maybe", "foes yes no", "foes Yes", "foes 1", "foe no", "knows no", "foes  no"):
            self.wrong(3, "form", with_line(3, line))

    def test_form_of_answers(self):
        for line in (" ", "-", "- | 0", "- | 0:", "- | 0: ", "- | : 1", "-| 0: 1", "- |0: 1", "- | 0:1", "-  | 0: 1",
                     " | 0: 1", "| 0: 1", "- | 0: 1 ", " - | 0: 1", "- | 0: +1", "- | 0: 01", "- | 0: -0", "- | 0: -1",
                     "- | -1: 1", "- | 00: 1", "1 - | 0: 1", "- 1 | 0: 1", "-- | 0: 1", "1  2 | 0: 1", "1, 2 | 0: 1",
                     "01 | 0: 1", "- | 0: 1 | 0: 1", "- | 0: 1: 1", "- | 0 0: 1", "- | 0: 1 1", "1234567 | 0: 1",
                     "- | 1234567: 1", "- | 0: 1234567", "x | 0: 1", "- | x: 1", "- | 0: x", "-1 | 0: 1", "- | 0: 1\r"):
            self.wrong(4, "form", with_line(4, line))
            self.wrong(10, "form", PLAIN_TEXT + "\n" + line)

    def test_rows_of_answers(self):
        for row in ("0", "4", "1 1", "2 1", "1 0", "0 0", "1 2 0", "999999", "1 0 2"):
            self.wrong(9, "row", with_line(9, f"{row} | 0: 3"))
            self.wrong(9, "row", with_line(9, f"{row} | 9: 9"))
        for row in ("1", "0 0", "1 0 2", "0 1 0", "4 0", "1 0 0 0", "0"):
            self.wrong(6, "row", with_line(6, f"{row} | 0: 0", FOES_TEXT))

    def test_kinds_of_answers(self):
        for kind in (2, 3, 999999):
            self.wrong(9, "kind", with_line(9, f"1 2 | {kind}: 3"))
            self.wrong(9, "kind", with_line(9, f"1 2 | {kind}: 9"))
        self.wrong(6, "kind", with_line(6, "1 0 2 3 | 1: 0", FOES_TEXT))
        self.assertTrue(read_system(with_line(5, "1 0 | 0: 2", FOES_TEXT)).has_answer((1, 0), 0))

    def test_words_of_answers(self):
        for word in (1, 2, 4, 999999):
            self.wrong(9, "word", with_line(9, f"1 2 | 0: {word}"))
        self.wrong(5, "word", with_line(5, "- | 0: 4"))

    def test_order_of_answers(self):
        lines = PLAIN_TEXT.split("\n")
        for number in range(4, 9):
            exchanged = lines[:]
            exchanged[number - 1], exchanged[number] = exchanged[number], exchanged[number - 1]
            self.wrong(number + 1, "order", "\n".join(exchanged))
        for number in range(4, 10):
            doubled = lines[:number] + lines[number - 1:]
            self.wrong(number + 1, "order", "\n".join(doubled))
        self.wrong(5, "order", with_line(5, "- | 0: 2"))
        self.wrong(10, "order", PLAIN_TEXT + "\n- | 0: 1")
        self.wrong(10, "order", PLAIN_TEXT + "\n1 2 | 0: 0")

    def test_the_first_wrong_line_counts(self):
        self.wrong(3, "form", "ladder 3\nsides 2 2\nfoes\nx")
        self.wrong(4, "word", with_line(6, "x", with_line(4, "- | 0: 9")))
        self.wrong(5, "form", with_line(6, "- | 0: 1", with_line(5, "x")))

    def test_exchanged_lines(self):
        self.wrong(1, "form", "sides 2 2\nladder 3\nfoes no")
        self.wrong(2, "form", "ladder 3\nfoes no\nsides 2 2")

    def test_a_text_is_read_exactly_if_it_is_a_text_of_a_system(self):
        rng = random.Random(33)
        texts = [system_text(System(sides, ladder, answers_in(words)[:4], foes))
                 for sides, ladder, foes, words in worlds(34, (1, 2), [(1, 1), (2, 2)])]
        read = 0
        for text in changed_texts(rng, texts, 6000, "0123 -\n:|"):
            try:
                system = read_system(text)
            except BadText:
                continue
            read += 1
            self.same(system_text(system), text)
        self.assertGreater(read, 20)


if __name__ == "__main__":
    unittest.main()
