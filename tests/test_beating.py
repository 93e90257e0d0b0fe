"""[6.9]: the couple and the foes' book to which a table leads a system."""

import random
import unittest

from risingcalls.beating import beating_book
from risingcalls.deciding import Lost
from risingcalls.decidingfoes import decide_foes
from risingcalls.errors import BadLeap, NotAlike, NotLost
from risingcalls.foebooks import FoeBook, play_against
from risingcalls.goals import Goals
from risingcalls.systems import System
from risingcalls.talks import Gap
from wonworlds import many_drawn, told_won
from worlds import NO_WHOLE, Case, answers_in, listed, lots_by_words, random_words, told_speaker

WORLDS = [((1, 1), 2), ((2, 1), 2), ((1, 2), 2), ((2, 2), 2), ((2, 2), 3), ((3, 1), 3), ((1, 3), 3), ((2, 1), 4),
          ((3, 2), 2), ((1, 1), 5)]
GOALS = Goals(1, [[[0]]])


class Beating(Case):
    def wrong(self, goals, words, system, found, leap):
        """The talk against the book goes wrong; the book's answers are at rows of it and within the leap."""
        self.assertIs(type(found), tuple)
        couple, book = found
        self.assertIs(type(couple), tuple)
        self.assertIs(type(book), FoeBook)
        self.same(book.ladder, goals.ladder)
        self.assertLessEqual(book.leap, leap)
        talk = play_against(system, couple, book)
        for row, word in book.answers:
            self.same(talk.row[:len(row) + 1], row + (word,))
        if isinstance(talk, Gap):
            self.same(talk.kind, couple[told_speaker(talk.row, True)])
            return "gap"
        lots = lots_by_words(words, goals.sides, talk.row, True)
        self.assertFalse(goals.suits(couple, talk.end, (len(lots[1]) == 1, len(lots[0]) == 1)))
        return "end" if talk.end not in goals.ends_for(couple) else "knows"

    def test_whatever_the_system_answers(self):
        rng = random.Random(691)
        seen = {"gap": 0, "end": 0, "knows": 0}
        called = 0
        for goals in many_drawn(692, WORLDS, shares=(0.5, 0.8, 0.95)):
            for leap in range(goals.ladder + 1):
                result = decide_foes(goals, leap)
                if isinstance(result, Lost):
                    words = random_words(rng, goals.sides, goals.ladder, True, rng.choice((0.9, 1.0, 1.0)),
                                         rng.choice((0.0, 0.7)))
                    system = System(goals.sides, goals.ladder, answers_in(words), True)
                    found = beating_book(goals, listed(result.stands), system, leap)
                    seen[self.wrong(goals, words, system, found, leap)] += 1
                    called += len(found[1]) > 0
        self.assertGreater(min(seen.values()), 12)
        self.assertGreater(called, 15)

    def test_every_system_that_wins_with_a_lesser_leap(self):
        # such a system fails by a call of the foes alone, never among silent ones
        seen = 0
        for goals in many_drawn(693, WORLDS, many=2, shares=(0.9,)):
            results = [decide_foes(goals, leap) for leap in range(goals.ladder + 1)]
            for leap in range(1, goals.ladder + 1):
                if isinstance(results[leap], Lost) and not isinstance(results[leap - 1], Lost):
                    system = results[leap - 1].system
                    words = {(row, kind): word for row, kind, word in system.answers}
                    found = beating_book(goals, results[leap].stands, system, leap)
                    self.wrong(goals, words, system, found, leap)
                    self.same(found[1].leap, leap)
                    seen += 1
        self.assertGreater(seen, 10)

    def test_tables_of_all_lost_stands(self):
        rng = random.Random(694)
        for goals in many_drawn(695, [((2, 1), 2), ((2, 2), 2), ((1, 2), 3)], shares=(0.6,)):
            for leap in range(goals.ladder + 1):
                if isinstance(decide_foes(goals, leap), Lost):
                    table = [stand for stand, truth in told_won(goals, leap).items() if not truth]
                    rng.shuffle(table)
                    words = random_words(rng, goals.sides, goals.ladder, True)
                    system = System(goals.sides, goals.ladder, answers_in(words), True)
                    self.wrong(goals, words, system, beating_book(goals, table * 2, system, leap), leap)

    def test_by_hand(self):
        table = decide_foes(GOALS, 1).stands
        stops = System((1, 1), 1, [((), 0, 0), ((0, 1), 0, 0)], True)
        self.same(beating_book(GOALS, table, stops, 1), ((0, 0), FoeBook(1, [((0,), 1)])))
        self.same(beating_book(GOALS, table, System((1, 1), 1, [], True), 1), ((0, 0), FoeBook(1, [])))
        self.same(beating_book(GOALS, table, stops.without_answer((0, 1), 0), 1), ((0, 0), FoeBook(1, [((0,), 1)])))

    def test_errors_in_their_order(self):
        table = decide_foes(GOALS, 1).stands
        odd = System((2, 1), 2, [])
        for leap in (*NO_WHOLE, -1, 2):
            self.refused(BadLeap(), beating_book, GOALS, None, odd, leap)
        self.refused(NotAlike("sides"), beating_book, GOALS, None, odd, 1)
        self.refused(NotAlike("ladder"), beating_book, GOALS, None, System((1, 1), 2, []), 1)
        self.refused(NotAlike("foes"), beating_book, GOALS, None, System((1, 1), 1, []), 1)
        system = System((1, 1), 1, [], True)
        first = ((0,), (0,), 0, 0)
        for stands, label in ((None, "stand"), ("ab", "stand"), ([None], "stand"), ([], "first"), ([first], "leak")):
            self.refused(NotLost(label), beating_book, GOALS, stands, system, 1)
        self.refused(NotLost("leak"), beating_book, GOALS, table, system, 0)


if __name__ == "__main__":
    unittest.main()
