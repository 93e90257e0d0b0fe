"""[2.10], [2.11], [2.12]: lots, rows that can come, gaps, and ended rows."""

import itertools
import unittest

from risingcalls.errors import BadLeap, BadRow
from risingcalls.heard import ended_lots, gaps_of, is_whole_system, lots_along, lots_at, needed_answers, rows_of
from risingcalls.systems import System
from risingcalls.talks import Gap
from worlds import (
    NO_SEQUENCE, NO_WHOLE, Case, answers_in, in_order, lots_by_words, spoil, told_coming, told_ended, told_rows,
    told_speaker, told_talks, worlds,
)

SIDES = [(1, 1), (2, 1), (1, 2), (2, 2), (3, 2)]
SMALL = list(worlds(11, (0, 1, 2), SIDES)) + list(worlds(12, (3, 4), SIDES, foes=(False,)))
SMALL += list(worlds(13, (3,), [(2, 2)], shares=(0.9,))) + list(worlds(14, (3,), [(3, 4)], shares=(1.0,)))


def made(world):
    sides, ladder, foes, words = world
    return System(sides, ladder, answers_in(words), foes)


def told_lots(world, row):
    sides, _, foes, words = world
    return lots_by_words(words, sides, row, foes)


def couples_talking(world, row):
    """The couples whose talks, with the foes' words of the row, begin with the row."""
    sides, ladder, foes, words = world
    found = []
    for couple in itertools.product(range(sides[0]), range(sides[1])):
        talks = told_talks(words, ladder, foes, couple)
        if any(talk[1][:len(row)] == row for _, talk in talks):
            found.append(couple)
    return found


class Lots(Case):
    def test_lots_at_every_row(self):
        for world in SMALL:
            system = made(world)
            for row in told_rows(world[1], world[2]):
                self.same(lots_at(system, row), told_lots(world, row))
                self.same(lots_at(system, list(row)), told_lots(world, row))

    def test_lots_along_every_row(self):
        for world in SMALL:
            system = made(world)
            for row in told_rows(world[1], world[2]):
                wanted = tuple(told_lots(world, row[:at]) for at in range(len(row) + 1))
                self.same(lots_along(system, list(row)), wanted)

    def test_each_word_cuts_the_lot_of_its_speaker_alone(self):
        for world in SMALL:
            system = made(world)
            for row in told_rows(world[1], world[2]):
                lots = lots_along(system, row)
                for at in range(len(row)):
                    speaker = told_speaker(row[:at], world[2])
                    for side in {0, 1} - {speaker}:
                        self.same(lots[at + 1][side], lots[at][side])

    def test_the_couples_of_the_lots_are_those_whose_talks_begin_so(self):
        for world in SMALL:
            if world[1] <= 2 or not world[2]:
                system = made(world)
                for row in told_rows(world[1], world[2]):
                    found = list(itertools.product(*lots_at(system, row)))
                    # a row at a foe's turn, or with a foe's call at its end, is the beginning of a talk, too
                    self.same(found, couples_talking(world, row))

    def test_wrong_rows(self):
        plain, foes = System((1, 1), 2, []), System((1, 1), 2, [], True)
        for work in (lots_at, lots_along):
            for row in (*NO_SEQUENCE, (3,), (1, 1), (2, 1), (-1,), (True,), (None,), ("1",)):
                self.refused(BadRow(), work, plain, row)
                self.refused(BadRow(), work, foes, row)
            self.refused(BadRow(), work, plain, (0, 1))
            self.refused(BadRow(), work, foes, (0, 0, 1))
            self.same(work(plain, [])[-1], ((0,), (0,)) if work is lots_along else (0,))

    def test_rows_are_neither_changed_nor_kept(self):
        system = System((2, 1), 1, [((), 0, 0), ((), 1, 1)])
        row = [1, 0]
        found = (lots_at(system, row), lots_along(system, row))
        self.same(row, [1, 0])
        spoil(row)
        self.same(found, (((1,), ()), (((0, 1), (0,)), ((1,), (0,)), ((1,), ()))))

    def test_empty_lots(self):
        system = System((2, 1), 1, [((), 0, 0)])
        self.same(lots_at(system, (1,)), ((), (0,)))
        self.same(lots_at(system, (1, 0)), ((), ()))
        self.same(lots_along(system, (0,)), (((0, 1), (0,)), ((0,), (0,))))


class Coming(Case):
    def test_the_rows_that_can_come_are_the_beginnings_of_talks(self):
        for world in SMALL:
            sides, ladder, foes, words = world
            system = made(world)
            for leap in (None, *range(ladder + 1)):
                self.same(list(rows_of(system, leap)), told_coming(words, sides, ladder, foes, leap))
            self.same(list(rows_of(system)), told_coming(words, sides, ladder, foes))

    def test_a_row_can_come_exactly_if_both_lots_are_not_empty(self):
        for world in SMALL:
            system = made(world)
            coming = set(rows_of(system))
            for row in told_rows(world[1], world[2]):
                if not world[2] or len(row) % 2 == 0:
                    self.same(all(lots_at(system, row)), row in coming)

    def test_in_plain_systems_a_leap_means_nothing(self):
        for world in SMALL:
            if not world[2]:
                system = made(world)
                for leap in range(world[1] + 1):
                    self.same(list(rows_of(system, leap)), list(rows_of(system)))

    def test_wrong_leaps(self):
        for foes in (False, True):
            for ladder in (0, 2, 6):
                system = System((1, 1), ladder, [], foes)
                for leap in (*NO_WHOLE[1:], -1, ladder + 1, 7):
                    for work in (rows_of, gaps_of, is_whole_system):
                        self.refused(BadLeap(), work, system, leap)
                for leap in (None, 0, ladder):
                    self.same(list(rows_of(system, leap)), [()])

    def test_gaps_by_rows_then_kinds(self):
        whole = 0
        for world in SMALL:
            sides, ladder, foes, words = world
            system = made(world)
            for leap in (None, *range(ladder + 1)):
                wanted = []
                for row in told_coming(words, sides, ladder, foes, leap):
                    if not told_ended(row, foes):
                        lot = told_lots(world, row)[told_speaker(row, foes)]
                        wanted.extend(Gap(row, kind) for kind in lot if (row, kind) not in words)
                self.same(gaps_of(system, leap), tuple(wanted))
                self.same(is_whole_system(system, leap), not wanted)
                whole += not wanted
            self.same(gaps_of(system), gaps_of(system, None))
            self.same(is_whole_system(system), not gaps_of(system))
        self.assertGreater(whole, 20)

    def test_a_leap_hides_gaps(self):
        system = System((1, 1), 2, [((), 0, 0), ((0, 1), 0, 0)], True)
        self.same((gaps_of(system, 0), gaps_of(system, 1), gaps_of(system, 2)),
                  ((), (Gap((0, 1, 0, 2), 0),), (Gap((0, 2), 0), Gap((0, 1, 0, 2), 0))))
        self.same((is_whole_system(system, 0), is_whole_system(system, 1)), (True, False))

    def test_ended_lots(self):
        for world in SMALL:
            sides, ladder, foes, words = world
            system = made(world)
            wanted = [(row, *told_lots(world, row)) for row in told_coming(words, sides, ladder, foes)
                      if told_ended(row, foes)]
            self.same(list(ended_lots(system)), wanted)

    def test_each_couple_is_in_one_ended_row_of_a_whole_plain_system(self):
        for world in SMALL:
            system = made(world)
            if not world[2] and is_whole_system(system):
                couples = [couple for _, *lots in ended_lots(system) for couple in itertools.product(*lots)]
                self.assertEqual(sorted(couples), list(itertools.product(*map(range, world[0]))))

    def test_needed_answers(self):
        for world in SMALL:
            sides, ladder, foes, words = world
            coming = told_coming(words, sides, ladder, foes)
            needed = {(row, kind): word for (row, kind), word in words.items()
                      if row in coming and kind in told_lots(world, row)[told_speaker(row, foes)]}
            self.same(tuple(needed_answers(made(world))), in_order(needed))

    def test_the_greatest_ladder_against_foes(self):
        words = {(row, 0): 0 for row in told_rows(6, True) if told_speaker(row, True) is not None}
        system = System((1, 1), 6, answers_in(words), True)
        rows = list(rows_of(system))
        self.same(rows[:3], [(), (0, 0), (0, 1)])
        self.assertEqual(len(rows), 2 * 2 ** 6)
        self.same((len(list(rows_of(system, 0))), len(list(rows_of(system, 1)))), (2, 14))


if __name__ == "__main__":
    unittest.main()
