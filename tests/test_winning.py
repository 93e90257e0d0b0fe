"""[4.3], [4.4]: won and lost stands, won parts, won partings and words let."""

import itertools
import random
import unittest

from risingcalls.errors import BadKind, BadStand, BadWord
from risingcalls.goals import Goals
from risingcalls.winning import is_won, winning_partings, won_parts, words_let
from wonworlds import (
    TRUTHS, all_of, drawn_goals, many_drawn, parts_in_lot, parts_of_parting, told_first, told_part_lost, told_partings,
    told_won, words_at,
)
from worlds import NO_SEQUENCE, NO_WHOLE, Case, listed, spoil

# small enough to go through all partings of all stands
WORLDS = [((1, 1), ladder) for ladder in range(7)] + [
    ((2, 1), 0), ((2, 1), 3), ((1, 2), 3), ((1, 2), 5), ((2, 2), 1), ((2, 2), 2), ((2, 2), 3), ((2, 2), 4), ((3, 2), 2),
    ((2, 3), 2), ((3, 3), 1), ((1, 4), 2), ((4, 1), 2), ((3, 4), 1), ((6, 1), 1), ((1, 6), 1), ((2, 6), 0), ((5, 2), 1)]
LARGE = [((2, 2), 6), ((3, 2), 3), ((6, 2), 1), ((2, 6), 1), ((6, 1), 2), ((1, 5), 3), ((4, 3), 2)]
GOALS = Goals.all_wanted((3, 2), 2)


def told_won_words(goals, won, stand):
    """All won partings of a stand, ascending."""
    lost = {(word, part): told_part_lost(goals, stand, part, word, 0, lambda behind: not won[behind])
            for word in words_at(goals, stand) for part in parts_in_lot(stand[stand[3]])}
    return [parting for parting in told_partings(goals, stand)
            if not any(lost[pair] for pair in parts_of_parting(stand, parting))]


def told_greatest(goals, won, stand, word):
    parts = [part for part in parts_in_lot(stand[stand[3]])
             if not told_part_lost(goals, stand, part, word, 0, lambda behind: not won[behind])]
    return tuple(sorted(part for part in parts if not any(set(part) < set(wider) for wider in parts)))


class Winning(Case):
    def held(self, goals, stands=None):
        """Hold is_won against all partings; return how often which was right."""
        won = told_won(goals)
        counts = {True: 0, False: 0}
        for stand in won if stands is None else stands:
            self.same(is_won(goals, stand), won[stand])
            counts[won[stand]] += 1
        return counts

    def test_every_stand_of_small_goals(self):
        counts = {True: 0, False: 0}
        for goals in many_drawn(401, WORLDS):
            for truth, many in self.held(goals).items():
                counts[truth] += many
        self.assertGreater(min(counts.values()), 3000)

    def test_some_stands_of_larger_goals(self):
        rng = random.Random(402)
        for goals in many_drawn(403, LARGE, shares=(0.9,)):
            stands = [stand for stand in told_won(goals) if rng.random() < 0.02]
            self.held(goals, [told_first(goals), *stands])

    def test_first_stands_won_and_lost_with_each_knows(self):
        counts = {(knows, truth): 0 for knows in TRUTHS for truth in (True, False)}
        for goals in many_drawn(404, [((2, 2), 3), ((2, 1), 2), ((1, 2), 3), ((3, 1), 3)], many=4):
            first = told_first(goals)
            won = told_won(goals)[first]
            self.same(is_won(goals, first), won)
            counts[goals.knows, won] += 1
        self.assertGreater(min(counts.values()), 5)

    def test_small_worlds_by_hand(self):
        goals = Goals(1, [[[0]], [[1]]], (False, True))
        self.same(is_won(goals, ((0, 1), (0,), 0, 0)), True)
        self.same(is_won(goals, ((0, 1), (0,), 0, 1)), False)
        self.same(is_won(goals, ((1,), (0,), 0, 1)), True)
        self.same(is_won(goals, ((0, 1), (0,), 1, 0)), False)
        self.same(is_won(goals, ((0, 1), (0,), -1, 0)), False)
        # nothing but a stop is left at the top of the ladder, also if a foe has called it
        self.same(is_won(Goals(1, [[[-1]]]), ((0,), (0,), -1, 1)), True)
        self.same(is_won(Goals(1, [[[1]]]), ((0,), (0,), -1, 1)), False)
        self.same(is_won(Goals(2, [[[2]]]), ((0,), (0,), -1, 1)), True)

    def test_lesser_lots_of_won_stands_are_won(self):
        rng = random.Random(405)
        seen = 0
        for _ in range(60):
            goals = drawn_goals(rng, rng.choice([(2, 2), (3, 2), (2, 3), (6, 2), (3, 4)]), rng.randint(1, 6), 0.85)
            lots = [tuple(sorted(rng.sample(lot, rng.randint(1, len(lot))))) for lot in all_of(goals.sides)]
            stand = (*lots, rng.randint(-goals.ladder, goals.ladder), rng.randint(0, 1))
            if is_won(goals, stand):
                for east, west in itertools.product(parts_in_lot(lots[0]), parts_in_lot(lots[1])):
                    seen += 1
                    self.same(is_won(goals, (east, west, *stand[2:])), True)
        self.assertGreater(seen, 200)

    def test_goals_of_the_greatest_size_answer(self):
        rng = random.Random(406)
        for sides in ((3, 4), (4, 3), (2, 6), (6, 2), (1, 6), (6, 1)):
            for knows in TRUTHS:
                goals = drawn_goals(rng, sides, 6, 0.95, knows)
                first = told_first(goals)
                truth = is_won(goals, first)
                self.same(bool(words_let(goals, first, 0)), truth)
                self.same(next(winning_partings(goals, first), None) is not None, truth)
        goals = Goals.all_wanted((6, 2), 6)
        # each of the six kinds may say each of the seven words
        self.assertEqual(sum(1 for _ in winning_partings(goals, told_first(goals))), 7 ** 6)


class Parts(Case):
    def test_won_parts_of_every_stand_and_word(self):
        seen = {0: 0, 1: 0, 2: 0}
        for goals in many_drawn(411, WORLDS, shares=(0.8,)):
            won = told_won(goals)
            for stand in won:
                for word in words_at(goals, stand):
                    wanted = told_greatest(goals, won, stand, word)
                    self.same(won_parts(goals, stand, word), wanted)
                    seen[min(2, len(wanted))] += 1
        self.assertGreater(min(seen.values()), 300)

    def test_a_word_is_won_for_a_part_exactly_within_one_of_them(self):
        for goals in many_drawn(412, [((3, 2), 2), ((2, 3), 2), ((4, 1), 2)]):
            won = told_won(goals)
            for stand in won:
                for word in words_at(goals, stand):
                    greatest = won_parts(goals, stand, word)
                    for part in parts_in_lot(stand[stand[3]]):
                        lost = told_part_lost(goals, stand, part, word, 0, lambda behind: not won[behind])
                        self.assertEqual(any(set(part) <= set(wide) for wide in greatest), not lost)

    def test_by_hand(self):
        goals = Goals(1, [[[0]], [[0]], [[1]]], (False, True))
        first = told_first(goals)
        self.same(won_parts(goals, first, 0), ((0,), (1,)))
        self.same(won_parts(goals, first, 1), ((2,),))
        self.same(won_parts(goals, listed(first), 1), ((2,),))
        self.same(won_parts(Goals(1, [[[0]]]), ((0,), (0,), 0, 0), 1), ())

    def test_words_that_may_not_be_said(self):
        for end in range(-2, 3):
            stand = ((0, 2), (1,), end, 0)
            for word in (*NO_WHOLE, -1, 3, 7, *range(1, abs(end) + 1)):
                self.refused(BadWord(word), won_parts, GOALS, stand, word)
                self.refused(BadWord(word), won_parts, GOALS, listed(stand), word)
            for word in (0, *range(abs(end) + 1, 3)):
                self.same(won_parts(GOALS, stand, word), ((0, 2),))


class Partings(Case):
    def test_all_won_partings_and_words_let(self):
        several = 0
        for goals in many_drawn(421, WORLDS, shares=(0.8,)):
            won = told_won(goals)
            for stand in won:
                lot = stand[stand[3]]
                wanted = told_won_words(goals, won, stand)
                self.same(list(winning_partings(goals, stand)), wanted)
                for place, kind in enumerate(lot):
                    self.same(words_let(goals, stand, kind), tuple(sorted({words[place] for words in wanted})))
                several += len(wanted) > 1
        self.assertGreater(several, 500)

    def test_a_stand_is_won_exactly_if_there_is_a_won_parting(self):
        for goals in many_drawn(422, LARGE, shares=(0.95,)):
            first = told_first(goals)
            self.same(bool(list(winning_partings(goals, first))), is_won(goals, first))

    def test_words_let_where_the_same_word_cannot_be_said_twice(self):
        # west must know, so each word is said by one kind
        goals = Goals.all_wanted((3, 1), 2, (False, True))
        first = told_first(goals)
        self.same(list(winning_partings(goals, first)), list(itertools.permutations(range(3))))
        for kind in range(3):
            self.same(words_let(goals, first, kind), (0, 1, 2))
        four = Goals.all_wanted((4, 1), 2, (False, True))
        self.same(list(winning_partings(four, told_first(four))), [])
        self.same(words_let(four, told_first(four), 3), ())

    def test_lists_are_taken(self):
        stand = [[0, 2], [1], 1, 0]
        self.same(list(winning_partings(GOALS, stand)), [(0, 0), (0, 2), (2, 0), (2, 2)])
        self.same(words_let(GOALS, stand, 2), (0, 2))
        self.same(is_won(GOALS, stand), True)
        self.same(stand, [[0, 2], [1], 1, 0])
        found = list(winning_partings(GOALS, stand))
        spoil(stand)
        self.same(found, [(0, 0), (0, 2), (2, 0), (2, 2)])

    def test_kinds_that_are_none_of_the_lot(self):
        for kind in (*NO_WHOLE, -1, 1, 3):
            self.refused(BadKind(), words_let, GOALS, ((0, 2), (1,), 0, 0), kind)
        for kind in (*NO_WHOLE, -1, 0, 2):
            self.refused(BadKind(), words_let, GOALS, ((0, 2), (1,), 0, 1), kind)


class Wrong(Case):
    def wrong(self, what, stand):
        self.refused(BadStand(what), is_won, GOALS, stand)
        self.refused(BadStand(what), winning_partings, GOALS, stand)
        # the stand is judged ahead of the word and the kind
        for other in (0, None, 99):
            self.refused(BadStand(what), won_parts, GOALS, stand, other)
            self.refused(BadStand(what), words_let, GOALS, stand, other)

    def test_each_wrong_stand(self):
        for odd in (*NO_SEQUENCE, (), ((0,), (0,), 0), ((0,), (0,), 0, 0, 0)):
            self.wrong("stand", odd)
        for odd in (*NO_SEQUENCE, (), (3,), (1, 0), (0, 0), (True,), (-1,)):
            self.wrong("east", (odd, (0,), 0, 0))
            self.wrong("west", ((0,), odd, 0, 0))
        for odd in (*NO_WHOLE, -3, 3):
            self.wrong("end", ((0,), (0,), odd, 0))
        for odd in (*NO_WHOLE, -1, 2):
            self.wrong("speaker", ((0,), (0,), 0, odd))
        self.wrong("east", ((9,), (9,), 9, 9))
        self.wrong("west", ((0,), (9,), 9, 9))
        self.wrong("end", ((0,), (0,), 9, 9))


if __name__ == "__main__":
    unittest.main()
