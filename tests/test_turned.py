"""[2.13]: systems made of systems."""

import itertools
import unittest

from risingcalls.errors import BadLot, BadSide, BadSystem, NotAlike
from risingcalls.heard import lots_at
from risingcalls.systems import System
from risingcalls.turned import crossed_systems, kept_system, raised_system, renumbered_system
from worlds import (
    NO_SEQUENCE, NO_WHOLE, Case, answers_in, in_order, lots_of, told_rows, told_speaker, worlds,
)

SMALL = list(worlds(21, (0, 1, 2), [(1, 1), (2, 1), (2, 2), (3, 2)], shares=(0.6, 1.0)))
SYSTEM = System((2, 3), 2, [((), 0, 1), ((), 1, 0), ((1,), 2, 2)])


def made(world):
    sides, ladder, foes, words = world
    return System(sides, ladder, answers_in(words), foes)


def told_of(system):
    return (system.sides, system.ladder, system.foes)


def up(word, by):
    return word + by if word else 0


class Kinds(Case):
    def test_renumbered_for_all_orders(self):
        for world in SMALL:
            sides, ladder, foes, words = world
            for side in (0, 1):
                for order in itertools.permutations(range(sides[side])):
                    found = renumbered_system(made(world), side, list(order))
                    wanted = {}
                    for (row, kind), word in words.items():
                        mine = told_speaker(row, foes) == side
                        wanted[row, order.index(kind) if mine else kind] = word
                    self.same(found.answers, in_order(wanted))
                    self.same(told_of(found), (sides, ladder, foes))

    def test_new_kind_k_is_the_old_kind_order_k(self):
        found = renumbered_system(SYSTEM, 1, (2, 0, 1))
        self.same(found.answers, (((), 0, 1), ((), 1, 0), ((1,), 0, 2)))
        found = renumbered_system(SYSTEM, 0, (1, 0))
        self.same(found.answers, (((), 0, 0), ((), 1, 1), ((1,), 2, 2)))

    def test_renumbered_refuses(self):
        for side in (*NO_WHOLE, -1, 2):
            self.refused(BadSide(), renumbered_system, SYSTEM, side, (0, 1))
            self.refused(BadSide(), renumbered_system, SYSTEM, side, None)
        for odd in (*NO_SEQUENCE, (), (0,), (0, 0), (0, 2), (0, True), (-1, 0), (0, 0, 1), (0, 1, 2, 3)):
            self.refused(BadLot(0), renumbered_system, SYSTEM, 0, odd)
            self.refused(BadLot(1), renumbered_system, SYSTEM, 1, odd)
        self.refused(BadLot(0), renumbered_system, SYSTEM, 0, (0, 1, 2))
        self.refused(BadLot(1), renumbered_system, SYSTEM, 1, (0, 1))

    def test_kept_for_all_lots(self):
        for world in SMALL:
            sides, ladder, foes, words = world
            for lots in itertools.product(lots_of(sides[0]), lots_of(sides[1])):
                found = kept_system(made(world), list(lots[0]), lots[1])
                wanted = {}
                for (row, kind), word in words.items():
                    lot = lots[told_speaker(row, foes)]
                    if kind in lot:
                        wanted[row, lot.index(kind)] = word
                self.same(found.answers, in_order(wanted))
                self.same(told_of(found), ((len(lots[0]), len(lots[1])), ladder, foes))

    def test_kept_refuses(self):
        for odd in (*NO_SEQUENCE, (), (3,), (1, 0), (0, 0), (True,), (-1, 0), (0, None)):
            self.refused(BadLot(0), kept_system, SYSTEM, odd, (0,))
            self.refused(BadLot(1), kept_system, SYSTEM, (0,), odd)
            self.refused(BadLot(0), kept_system, SYSTEM, odd, odd)
        self.refused(BadLot(0), kept_system, SYSTEM, (0, 2), (0, 2))


class Calls(Case):
    def test_raised_by_as_much_as_is_let(self):
        for world in SMALL:
            sides, ladder, foes, words = world
            for by in range(7 - ladder):
                found = raised_system(made(world), by)
                wanted = {(tuple(up(heard, by) for heard in row), kind): up(word, by)
                          for (row, kind), word in words.items()}
                self.same(found.answers, in_order(wanted))
                self.same(told_of(found), (sides, ladder + by, foes))

    def test_raised_refuses(self):
        for ladder in range(7):
            system = System((1, 1), ladder, [])
            for by in (*NO_WHOLE, -1, 7 - ladder, 7):
                self.refused(BadSystem(0, "ladder"), raised_system, system, by)


class Crossed(Case):
    def test_answers_and_lots(self):
        for one, other in zip(SMALL[::2], SMALL[1::2]):
            if one[:3] != other[:3]:
                continue
            found = crossed_systems(made(one), made(other))
            foes = one[2]
            wanted = {at: word for at, word in one[3].items() if told_speaker(at[0], foes) == 0}
            wanted.update({at: word for at, word in other[3].items() if told_speaker(at[0], foes) == 1})
            self.same(found.answers, in_order(wanted))
            self.same(told_of(found), one[:3])
            for row in told_rows(one[1], foes):
                self.same(lots_at(found, row), (lots_at(made(one), row)[0], lots_at(made(other), row)[1]))

    def test_some_worlds_were_alike(self):
        self.assertGreater(sum(one[:3] == other[:3] for one, other in zip(SMALL[::2], SMALL[1::2])), 20)

    def test_unlike_systems(self):
        system = System((2, 2), 2, [])
        self.refused(NotAlike("sides"), crossed_systems, system, System((2, 1), 2, []))
        self.refused(NotAlike("sides"), crossed_systems, system, System((1, 2), 1, [], True))
        self.refused(NotAlike("ladder"), crossed_systems, system, System((2, 2), 1, []))
        self.refused(NotAlike("ladder"), crossed_systems, system, System((2, 2), 1, [], True))
        self.refused(NotAlike("foes"), crossed_systems, system, System((2, 2), 2, [], True))

    def test_nothing_that_is_passed_changes(self):
        words = SYSTEM.answers
        order = [2, 0, 1]
        renumbered_system(SYSTEM, 1, order)
        kept_system(SYSTEM, [1], order[1:])
        raised_system(SYSTEM, 3)
        self.same(crossed_systems(SYSTEM, SYSTEM).answers, words)
        self.assertIsNot(crossed_systems(SYSTEM, SYSTEM), SYSTEM)
        self.same((SYSTEM.answers, order), (words, [2, 0, 1]))


if __name__ == "__main__":
    unittest.main()
