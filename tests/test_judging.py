"""[4.8], [4.9], [4.10]: judges of tables and of systems, and where a table leads a system."""

import itertools
import random
import unittest

from risingcalls.deciding import Lost, Won, decide_goals
from risingcalls.errors import NotAlike, NotLost
from risingcalls.goals import Goals
from risingcalls.judging import Fall, fall_of, system_fault, table_fault
from risingcalls.systems import System
from risingcalls.talks import Gap, Talk, play_talk
from wonworlds import (
    TRUTHS, closed_table, drawn_goals, many_drawn, parts_of_parting, stands_behind_word, told_first, told_part_lost,
    told_stands, told_table_fault, told_won, wrong_in,
)
from worlds import (
    NO_SEQUENCE, NO_WHOLE, Case, answers_in, listed, lots_by_words, random_words, spoil, told_speaker,
)

WORLDS = [((1, 1), 0), ((1, 1), 2), ((2, 1), 1), ((2, 1), 2), ((1, 2), 2), ((2, 2), 1), ((2, 2), 2), ((3, 1), 2)]
LOST = Goals(1, [[[1], [0]], [[0], [0]]], (False, True))
FIRST = ((0, 1), (0, 1), 0, 0)


def couples(sides):
    return list(itertools.product(range(sides[0]), range(sides[1])))


class Tables(Case):
    def test_drawn_tables(self):
        rng = random.Random(471)
        seen = {}
        for goals in many_drawn(472, WORLDS, many=2):
            won = told_won(goals)
            lost = [stand for stand in won if not won[stand]]
            tables = [lost, list(closed_table(won, goals)), list(won), []]
            for _ in range(12):
                from_stands = rng.choice((lost, lost + [told_first(goals)], list(won)))
                tables.append([stand for stand in from_stands if rng.random() < rng.choice((0.5, 0.9))])
            for table in tables:
                rng.shuffle(table)
                wanted = told_table_fault(goals, table)
                self.same(table_fault(goals, table), wanted)
                self.same(table_fault(goals, tuple(listed(table))), wanted)
                seen[wanted] = seen.get(wanted, 0) + 1
        self.assertGreater(min(seen[label] for label in (None, "first", "leak")), 150)

    def test_one_stand_less_or_more(self):
        rng = random.Random(473)
        seen = {None: 0, "first": 0, "leak": 0}
        for goals in many_drawn(474, WORLDS + [((3, 2), 2), ((2, 2), 3)], shares=(0.6, 0.8)):
            result = decide_goals(goals)
            if isinstance(result, Lost):
                won = told_won(goals)
                stands = list(result.stands)
                for stand in rng.sample(stands, min(3, len(stands))):
                    less = [other for other in stands if other != stand]
                    wanted = told_table_fault(goals, less)
                    self.same(table_fault(goals, less), wanted)
                    seen[wanted] += 1
                for stand in rng.sample(list(won), 3):
                    # a won stand always leaks, a lost one may do so because stands behind it are not there
                    wanted = told_table_fault(goals, [*stands, stand])
                    self.same(table_fault(goals, [*stands, stand]), wanted)
                    if won[stand]:
                        self.same(wanted, "leak")
                    seen[wanted] += 1
        self.assertGreater(min(seen.values()), 10)

    def test_order_and_repetition_mean_nothing(self):
        rng = random.Random(475)
        for goals in many_drawn(476, [((2, 2), 2), ((2, 1), 2), ((1, 2), 3)]):
            result = decide_goals(goals)
            if isinstance(result, Lost):
                table = list(result.stands) * 2
                rng.shuffle(table)
                self.assertIsNone(table_fault(goals, table))

    def test_all_stands_of_a_table_without_a_leak_are_lost(self):
        rng = random.Random(477)
        seen = 0
        for goals in many_drawn(478, WORLDS, many=3):
            won = told_won(goals)
            for _ in range(10):
                table = [told_first(goals)] + [stand for stand in won if rng.random() < (0.9 if not won[stand] else 0.02)]
                if table_fault(goals, table) is None:
                    seen += 1
                    self.assertFalse([stand for stand in table if won[stand]])
        self.assertGreater(seen, 100)

    def test_there_is_a_table_exactly_if_the_first_stand_is_lost(self):
        for goals in many_drawn(479, WORLDS):
            won = told_won(goals)
            lost = [stand for stand in told_stands(goals) if not won[stand]]
            self.same(table_fault(goals, lost), None if not won[told_first(goals)] else "first")

    def test_what_is_no_stand(self):
        for odd in NO_SEQUENCE:
            self.same(table_fault(LOST, odd), "stand")
            for at in (0, 1):
                table = [FIRST]
                table.insert(at, odd)
                self.same(table_fault(LOST, table), "stand")
        for odd in NO_WHOLE:
            for place in range(4):
                stand = list(FIRST)
                stand[place] = odd if place > 1 else (odd,)
                self.same(table_fault(LOST, [FIRST, stand]), "stand")
        for stand in (((0, 1), (0, 1), 2, 0), ((0, 1), (0, 1), -2, 0), ((0, 1), (0, 1), 0, 2), ((2,), (0,), 0, 0),
                      ((), (0,), 0, 0), ((1, 0), (0,), 0, 0), ((0,), (0,), 0)):
            self.same(table_fault(LOST, (FIRST, stand)), "stand")
            # "stand" is ahead of "first"
            self.same(table_fault(LOST, (stand,)), "stand")

    def test_first_is_ahead_of_leak(self):
        goals = Goals(0, [[[0]]])
        self.same(table_fault(goals, [((0,), (0,), 0, 1)]), "first")
        self.same(table_fault(goals, []), "first")
        self.same(table_fault(goals, [((0,), (0,), 0, 0)]), "leak")
        self.same(table_fault(LOST, [FIRST]), "leak")

    def test_stands_with_an_end_below_none(self):
        goals = Goals(2, [[[-1, 2]]])
        for stand, wanted in ((((0,), (0,), -1, 0), "leak"), (((0,), (0,), -2, 0), None), (((0,), (0,), 1, 1), "leak")):
            lost = Goals(2, [[[-2]]]) if wanted is None else goals
            table = [((0,), (0,), 0, 0), stand]
            self.same(table_fault(lost, table), told_table_fault(lost, table))
        self.same(table_fault(Goals(2, [[[-2]]]), told_stands(Goals(2, [[[-2]]]), 0)), None)
        self.same(table_fault(Goals(2, [[[-2]]]), told_stands(Goals(2, [[[-2]]]))), "leak")

    def test_the_greatest_tables_answer(self):
        for sides in ((3, 4), (6, 2), (2, 6)):
            goals = Goals(6, [[[-1]] * sides[1]] * sides[0])
            self.same(table_fault(goals, told_stands(goals, 0)), None)
            self.same(table_fault(goals, told_stands(goals)), "leak")


class Systems(Case):
    def told(self, goals, words):
        for couple in couples(goals.sides):
            for _, label, row, what in wrong_in(goals, words, couple, False, 0):
                return {"gap": ("gap", row, what), "end": ("end", couple), "knows": ("knows", couple, what)}[label]
        return None

    def test_drawn_systems(self):
        rng = random.Random(481)
        seen = {}
        for goals in many_drawn(482, WORLDS + [((3, 2), 3), ((2, 3), 4), ((3, 4), 6), ((6, 2), 5), ((2, 2), 0)],
                                shares=(0.5, 0.9)):
            for share in (0.9, 1.0):
                words = random_words(rng, goals.sides, goals.ladder, False, share, rng.choice((0.0, 0.6)))
                wanted = self.told(goals, words)
                self.same(system_fault(goals, System(goals.sides, goals.ladder, answers_in(words))), wanted)
                label = wanted and (wanted[0],) + wanted[2:] * (wanted[0] == "knows")
                seen[label] = seen.get(label, 0) + 1
        self.assertEqual(set(seen), {None, ("gap",), ("end",), ("knows", 0), ("knows", 1)})
        self.assertGreater(min(seen.values()), 5)

    def test_systems_that_win_and_one_answer_else(self):
        rng = random.Random(483)
        seen = 0
        for goals in many_drawn(484, [((2, 2), 3), ((3, 2), 3), ((2, 1), 2)]):
            result = decide_goals(goals)
            if isinstance(result, Won):
                seen += 1
                self.same(system_fault(goals, result.system), None)
                row, kind, _ = rng.choice(result.system.answers)
                words = {(row, kind): word for row, kind, word in result.system.without_answer(row, kind).answers}
                found = system_fault(goals, result.system.without_answer(row, kind))
                self.same(found, self.told(goals, words))
                self.same(found[0], "gap")
        self.assertGreater(seen, 20)

    def test_sides_ladder_and_foes_in_this_order(self):
        goals = Goals(1, [[[0]]])
        plain = [((), 0, 0)]
        self.same(system_fault(goals, System((1, 1), 1, plain)), None)
        self.same(system_fault(goals, System((1, 2), 2, plain, True)), ("sides",))
        self.same(system_fault(goals, System((2, 1), 1, plain)), ("sides",))
        self.same(system_fault(goals, System((1, 1), 2, plain, True)), ("ladder",))
        self.same(system_fault(goals, System((1, 1), 0, plain)), ("ladder",))
        self.same(system_fault(goals, System((1, 1), 1, plain, True)), ("foes",))
        self.same(system_fault(goals, System((1, 1), 1, [], True)), ("foes",))

    def test_each_label_and_two_faults_at_once(self):
        goals = Goals(1, [[[0], [0]], [[0], [1]]], (True, True))
        stops = [((), 0, 0), ((), 1, 0)]
        self.same(system_fault(goals, System((2, 2), 1, [])), ("gap", (), 0))
        self.same(system_fault(goals, System((2, 2), 1, [((), 0, 0)])), ("knows", (0, 0), 0))
        self.same(system_fault(goals, System((2, 2), 1, stops)), ("knows", (0, 0), 0))
        self.same(system_fault(Goals(1, goals.wanted, (False, True)), System((2, 2), 1, stops)), ("knows", (0, 0), 1))
        self.same(system_fault(Goals(1, goals.wanted), System((2, 2), 1, stops)), ("end", (1, 1)))
        # the end is ahead of knowing, a couple ahead of the next one
        barred = Goals(1, [[[1], [0]], [[0], [1]]], (True, True))
        self.same(system_fault(barred, System((2, 2), 1, stops)), ("end", (0, 0)))
        parted = [((), 0, 0), ((), 1, 1), ((1,), 0, 0)]
        self.same(system_fault(Goals(1, [[[0], [0]], [[1], [1]]], (False, True)), System((2, 2), 1, parted)),
                  ("gap", (1,), 1))


class Falls(Case):
    def walked(self, goals, table, words):
        """The Fall, word by word as [4.10] tells."""
        stand, row, stands = told_first(goals), (), []
        while True:
            stands.append(stand)
            side = stand[3]
            lot = stand[side]
            mute = [kind for kind in lot if (row, kind) not in words]
            if mute:
                left = ((mute[0],), stand[1]) if side == 0 else (stand[0], (mute[0],))
                return Fall(row, tuple(stands), (left[0][0], left[1][0]), "gap")
            said = tuple(words[row, kind] for kind in lot)
            lost = [(word, part) for word, part in parts_of_parting(stand, said)
                    if told_part_lost(goals, stand, part, word, 0, lambda behind: behind in table)]
            word, part = lost[0]
            row += (word,)
            if word == 0:
                left = list(itertools.product(*((part, stand[1]) if side == 0 else (stand[0], part))))
                wrong = [couple for couple in left if stand[2] not in goals.wanted[couple[0]][couple[1]]]
                return Fall(row, tuple(stands), (wrong or left)[0], "end" if wrong else "knows")
            stand = stands_behind_word(goals, stand, part, word, 0)[0]

    def test_drawn_systems_along_tables(self):
        rng = random.Random(491)
        seen = {}
        for goals in many_drawn(492, WORLDS + [((3, 2), 2), ((2, 2), 4), ((3, 3), 3), ((3, 4), 2), ((2, 6), 1)], many=2):
            result = decide_goals(goals)
            if not isinstance(result, Lost):
                continue
            for share in (0.85, 1.0, 1.0):
                words = random_words(rng, goals.sides, goals.ladder, False, share, rng.choice((0.0, 0.6)))
                system = System(goals.sides, goals.ladder, answers_in(words))
                fall = fall_of(goals, listed(result.stands), system)
                self.same(fall, self.walked(goals, result.stands, words))
                self.assertIs(type(fall), Fall)
                self.talked(goals, system, words, fall)
                seen[fall.label] = seen.get(fall.label, 0) + 1
        self.assertGreater(min(seen[label] for label in ("gap", "end", "knows")), 40)

    def talked(self, goals, system, words, fall):
        """The couple's own talk is the Gap of this row and kind, or a Talk with this row that is not right."""
        talk = play_talk(system, fall.couple)
        if fall.label == "gap":
            self.same(talk, Gap(fall.row, fall.couple[told_speaker(fall.row, False)]))
            return
        self.assertIs(type(talk), Talk)
        self.same(talk.row, fall.row)
        lots = lots_by_words(words, goals.sides, fall.row, False)
        self.assertFalse(goals.suits(fall.couple, talk.end, (len(lots[1]) == 1, len(lots[0]) == 1)))
        self.same(fall.label, "knows" if talk.end in goals.ends_for(fall.couple) else "end")

    def test_tables_of_all_lost_stands_lead_there_too(self):
        rng = random.Random(493)
        for goals in many_drawn(494, [((2, 2), 2), ((2, 1), 3), ((3, 2), 1)], shares=(0.5,)):
            won = told_won(goals)
            if not won[told_first(goals)]:
                table = [stand for stand in won if not won[stand]]
                rng.shuffle(table)
                words = random_words(rng, goals.sides, goals.ladder, False)
                system = System(goals.sides, goals.ladder, answers_in(words))
                self.same(fall_of(goals, table, system), self.walked(goals, table, words))

    def test_by_hand(self):
        goals = Goals(1, [[[0], [0]], [[0], [0]]], (False, True))
        table = decide_goals(goals).stands
        fall = fall_of(goals, table, System((2, 2), 1, [((), 0, 0), ((), 1, 0)]))
        self.same(fall, Fall((0,), (FIRST,), (0, 0), "knows"))
        parted = System((2, 2), 1, [((), 0, 0), ((), 1, 1), ((1,), 0, 0), ((1,), 1, 0)])
        self.same(fall_of(goals, table, parted), Fall((1, 0), (FIRST, ((1,), (0, 1), 1, 1)), (1, 0), "end"))
        silent = parted.without_answer((1,), 1)
        self.same(fall_of(goals, table, silent), Fall((1,), (FIRST, ((1,), (0, 1), 1, 1)), (1, 1), "gap"))
        self.same(fall_of(goals, table, System((2, 2), 1, [((), 0, 1)])), Fall((), (FIRST,), (1, 0), "gap"))

    def test_errors_in_their_order(self):
        table = decide_goals(LOST).stands
        odd = System((1, 1), 2, [], True)
        for wrong, label in ((None, "stand"), ([None], "stand"), ([], "first"), ([FIRST], "leak"), ("", "stand")):
            self.refused(NotLost(label), fall_of, LOST, wrong, odd)
            self.refused(NotLost(label), fall_of, LOST, wrong, System((2, 2), 1, []))
        # what is barred against foes is not barred in plain talks
        self.refused(NotLost("leak"), fall_of, Goals(1, [[[0]]]), [((0,), (0,), 0, 0), ((0,), (0,), 1, 1),
                                                                  ((0,), (0,), -1, 1)], odd)
        self.refused(NotAlike("sides"), fall_of, LOST, table, odd)
        self.refused(NotAlike("sides"), fall_of, LOST, table, System((2, 1), 1, []))
        self.refused(NotAlike("ladder"), fall_of, LOST, table, System((2, 2), 2, [], True))
        self.refused(NotAlike("foes"), fall_of, LOST, table, System((2, 2), 1, [], True))

    def test_falls_are_equal_if_all_four_are(self):
        fall = Fall((0,), (FIRST,), (0, 0), "end")
        self.assertTrue(fall == Fall((0,), (FIRST,), (0, 0), "end"))
        self.unequal_to_all(fall, [Fall((1,), (FIRST,), (0, 0), "end"), Fall((0,), (), (0, 0), "end"),
                                   Fall((0,), (FIRST,), (0, 1), "end"), Fall((0,), (FIRST,), (0, 0), "gap"),
                                   None, ((0,), (FIRST,), (0, 0), "end"), Talk((0,), 0)])
        thing = [0]
        self.assertIs(Fall(thing, 1, 2, 3).row, thing)

    def test_nothing_is_changed(self):
        stands = listed(decide_goals(LOST).stands)
        before = listed(stands)
        system = System((2, 2), 1, [((), 0, 0), ((), 1, 0)])
        fall = fall_of(LOST, stands, system)
        self.same(table_fault(LOST, stands), None)
        self.same(stands, before)
        spoil(stands)
        self.same(fall.stands, (FIRST,))

    def test_knows_of_the_goals_is_what_must_be_known(self):
        rng = random.Random(495)
        for knows in TRUTHS:
            goals = drawn_goals(rng, (2, 2), 1, 0.3, knows)
            result = decide_goals(goals)
            if isinstance(result, Lost):
                words = random_words(rng, (2, 2), 1, False)
                self.talked(goals, System((2, 2), 1, answers_in(words)), words,
                            fall_of(goals, result.stands, System((2, 2), 1, answers_in(words))))


if __name__ == "__main__":
    unittest.main()
