"""The interface of the document: names, arguments, where each is defined, and what is a generator."""

import importlib
import inspect
import unittest

FUNCTIONS = {
    "basics": """is_whole(thing, low=None, high=None); is_sequence(thing); are_sides(thing); is_lot(thing, kinds);
        is_order(thing, many); other_side(side); check_side(side); couples_of(sides); check_couple(sides, couple);
        check_lot(lot, kinds, side)""",
    "marks": "groups_by(marks, names); least_names(marks)",
    "goaltext": "goals_text(goals); read_goals(text)",
    "rows": """is_row(row, ladder, foes); check_row(row, ladder, foes); standing_at(row); end_at(row, foes);
        is_ended(row, foes); speaker_at(row, foes); words_of(row, foes, side); foe_words_of(row);
        next_words(ladder, standing); all_foe_words(ladder)""",
    "talks": "play_talk(system, couple, foe_words=()); every_talk(system, couple)",
    "heard": """lots_at(system, row); lots_along(system, row); rows_of(system, leap=None);
        gaps_of(system, leap=None); is_whole_system(system, leap=None); ended_lots(system)""",
    "turned": """renumbered_system(system, side, order); kept_system(system, east_lot, west_lot);
        raised_system(system, by); crossed_systems(one, other)""",
    "systemtext": "system_text(system); read_system(text)",
    "rules": """situation_at(row, foes=False); situations_of(ladder, foes=False);
        fits(rule, marks, kind, row, foes=False)""",
    "books": """rule_in(book, kind, row, foes=False); answer_in(book, kind, row, foes=False); raised_book(book, by);
        moved_up(book, number); without_rules(book, numbers); with_rule(book, number, rule)""",
    "making": """walk_of(book, ladder, foes=False); system_from(book, ladder, foes=False);
        silent_rules(book, ladder, foes=False); needless_rules(book, ladder, foes=False);
        is_shadowed(book, number, ladder, foes=False); order_matters(book, number, ladder, foes=False)""",
    "unmaking": "book_for(system, east_marks, west_marks, *, memory=True)",
    "stands": """check_stand(goals, stand); first_stand(goals); stop_wins(goals, stand, part);
        stand_behind(stand, part, call); stands_from(goals)""",
    "winning": """is_won(goals, stand); won_parts(goals, stand, word); winning_partings(goals, stand);
        words_let(goals, stand, kind)""",
    "deciding": "decide_goals(goals); count_systems(goals)",
    "cores": "lost_cores(goals); won_lots(goals)",
    "judging": "table_fault(goals, stands); system_fault(goals, system); fall_of(goals, stands, system)",
    "counts": """told_within(ladder, *, ends=None, words=None, end=0); told_split(ladder, *, ends=None, words=None, end=0);
        told_count(ladder); asked_count(ladder); least_told(kinds)""",
    "tellers": """tell_system(kinds, ladder, others=1, *, ends=None, words=None);
        tell_fault(system, *, ends=None, words=None, both=False)""",
    "crowds": "crowd_of(system, kind=0, *, ends=None, words=None)",
    "staircases": """most_both(ladder, q, *, ends=None); both_split(ladder, q, *, ends=None);
        serves_both(ladder, p, q, *, ends=None); staircase(ladder, *, ends=None); least_both(p, q)""",
    "bothways": "both_system(p, q, ladder, *, ends=None)",
    "joins": "joined_systems(ladder, branches, *, silent=False); later_system(system, row)",
    "foes": """foe_replies(ladder, standing, leap); is_won_foes(goals, stand, leap);
        won_parts_foes(goals, stand, word, leap)""",
    "decidingfoes": "decide_foes(goals, leap); least_leap(goals); foe_table_fault(goals, stands, leap)",
    "beaten": """beaten_by(goals, system, leap); couples_beaten(goals, system, leap); least_beating(goals, system);
        ends_against(system, couple, leap)""",
    "silence": "plain_part(system); with_silence(system)",
    "foebooks": "play_against(system, couple, book); book_along(ladder, row)",
    "beating": "beating_book(goals, stands, system, leap)",
    "foecounts": """foe_count(ladder, leap); least_ladder(kinds, leap); foe_counts(ladder);
        foe_system(kinds, ladder, leap)""",
    "costs": "floor_of(costs, weights); cheapest_goals(costs, weights); as_goals(costs, cost)",
    "prices": """price_of(costs, weights, stand); best_system(costs, weights); price_fault(costs, weights, table);
        best_parts(costs, weights)""",
    "totals": """total_of(costs, weights, system); mean_of(costs, weights, system);
        dearest_couple(costs, weights, system); worst_of(costs, system); excesses_of(costs, weights, system);
        is_best(costs, weights, system)""",
    "mixtures": "mixed_total(costs, weights, mixture); purest_of(costs, weights, mixture)",
    "dear": "worst_best(costs); worst_fault(costs, worst)",
    "alike": """first_parting(one, other); are_alike(one, other); unlike_end(one, other); same_ends(one, other);
        unlike_lots(one, other); same_knowledge(one, other)""",
    "knowing": """needless_answers(system); trimmed_system(system); couples_at(system, row);
        knows_at(system, row, side, kind); first_told(system, couple, side, foe_words=()); does_tell(system, side);
        first_apart(system, side, kind, other)""",
    "habits": "system_of_habit(habit); asked_entries(habit); tidied(habit); habit_of(system)",
    "finding": "choices_of(goals); find_habit(goals); no_habit_fault(goals, tables); habits_for(goals)",
    "watchers": """fitting(pool, talks); sure_word(pool, talks, row, kind); next_couple(pool, talks); ask_plan(pool);
        least_questions(pool); plan_depth(plan); plan_fault(pool, plan); told_by(plan, system)""",
    "slips": """count_slips(system, row, couple); told_with_slips(system, row, most); ended_rows(ladder, foes=False);
        ends_with_slips(system, couple, most); slips_to_end(system, couple, end); find_clash(system, most);
        slip_room(system)""",
    "slipwins": """slip_fault(goals, system, most); first_slip_stand(goals); is_slip_won(goals, stand, most);
        decide_slips(goals, most); slip_table_fault(goals, most, stands); most_slips(goals)""",
    "changes": "system_after(system, changes)",
    "mends": """first_denied(system, wishes); least_mends(system, pool, wishes);
        find_spoilers(system, pool, wishes)""",
    "nearest": """fewest_changes(goals, system, *, only=None);
        change_price(goals, system, row, east_lot, west_lot, *, only=None)""",
}
CLASSES = {
    "goals": {"Goals": """__init__(self, ladder, wanted, knows=(False, False)); ends_for(self, couple);
        suits(self, couple, end, knowing); implies(self, other); kept(self, east_lot, west_lot);
        renumbered(self, side, order); raised(self, by); without_foes(self); with_end(self, couple, end);
        all_wanted(sides, ladder, knows=(False, False)); __eq__(self, other)"""},
    "marks": {"Marks": """__init__(self, names, lines); value_of(self, kind, name);
        kinds_with(self, name, least, most); renumbered(self, order); __eq__(self, other)"""},
    "systems": {"System": """__init__(self, sides, ladder, answers, foes=False); answer_for(self, row, kind);
        has_answer(self, row, kind); with_answer(self, row, kind, word); without_answer(self, row, kind);
        __len__(self); __iter__(self); __eq__(self, other)"""},
    "talks": {"Talk": "__init__(self, row, end); __eq__(self, other)",
              "Gap": "__init__(self, row, kind); __eq__(self, other)"},
    "rules": {"Rule": """__init__(self, word, tests=(), own=None, other=None, foe=None, low=0, high=None, side=None);
        raised(self, by); __eq__(self, other)"""},
    "books": {"Book": """__init__(self, east_marks, west_marks, rules); marks_of(self, side); __len__(self);
        __iter__(self); __eq__(self, other)"""},
    "making": {"NotRising": "__init__(self, row, kind, word); __eq__(self, other)"},
    "unmaking": {"Clash": "__init__(self, row, kind, other_row, other_kind); __eq__(self, other)"},
    "deciding": {"Won": "__init__(self, system)", "Lost": "__init__(self, stands)"},
    "judging": {"Fall": "__init__(self, row, stands, couple, label); __eq__(self, other)"},
    "crowds": {"Crowd": "__init__(self, row, lot, label); __eq__(self, other)"},
    "beaten": {"Beaten": "__init__(self, couple, foe_words, label, row); __eq__(self, other)"},
    "foebooks": {"FoeBook": "__init__(self, ladder, answers); word_for(self, row); __len__(self); __eq__(self, other)"},
    "costs": {"Costs": """__init__(self, ladder, lines); cut(self, ladder); added(self, amount);
                  renumbered(self, side, order); __eq__(self, other)""",
              "Weights": """__init__(self, lines); even(sides); plus(self, other); times(self, size);
                  renumbered(self, side, order); __eq__(self, other)"""},
    "prices": {"Best": "__init__(self, total, system, table)"},
    "mixtures": {"Mixture": "__init__(self, shares, systems)"},
    "dear": {"Worst": "__init__(self, cost, system, table)"},
    "alike": {"Parting": "__init__(self, couple, foe_words, row); __eq__(self, other)"},
    "habits": {"Habit": """__init__(self, sides, ladder, east_words, west_words); word_at(self, side, kind, standing);
                   with_word(self, side, kind, standing, word); __eq__(self, other)""",
               "TwoWords": "__init__(self, side, kind, row, other_row); __eq__(self, other)"},
    "finding": {"NoHabit": "__init__(self, tables); __eq__(self, other)"},
    "watchers": {"Pool": "__init__(self, systems); __len__(self); __eq__(self, other)",
                 "Told": "__init__(self, numbers); __eq__(self, other)",
                 "Plan": "__init__(self, couple, onward); __eq__(self, other)"},
    "slips": {"SlipClash": "__init__(self, row, one, other); __eq__(self, other)"},
    "mends": {"Spoiler": "__init__(self, pick, extra, denied); __eq__(self, other)"},
    "nearest": {"Fewest": "__init__(self, number, changes); __eq__(self, other)"},
    "bench": {"Bench": """__init__(self, system); put(self, change); take_back(self, number); trial(self);
        tried(self, work); __len__(self); __iter__(self)"""},
}
STATIC = ("all_wanted", "even")
GENERATORS = ("all_foe_words", "every_talk", "rows_of", "ended_lots", "situations_of", "walk_of", "stands_from",
              "winning_partings", "choices_of", "habits_for", "ended_rows")
CONSTANTS = {"EAST": 0, "WEST": 1, "STOP": 0, "LADDER_MOST": 6, "KINDS_MOST": 6, "COUPLES_MOST": 12}


def parts(text):
    return [" ".join(part.split()) for part in text.split(";")]


class Interface(unittest.TestCase):
    def test_functions_with_their_arguments_stand_in_their_modules(self):
        for place, text in FUNCTIONS.items():
            module = importlib.import_module(f"risingcalls.{place}")
            for part in parts(text):
                name = part.partition("(")[0]
                thing = getattr(module, name)
                self.assertTrue(inspect.isfunction(thing), name)
                self.assertEqual(thing.__module__, f"risingcalls.{place}")
                self.assertEqual(f"{name}{inspect.signature(thing)}", part)
                self.assertEqual(inspect.isgeneratorfunction(thing), name in GENERATORS, name)

    def test_methods_are_defined_in_the_classes_themselves(self):
        for place, classes in CLASSES.items():
            module = importlib.import_module(f"risingcalls.{place}")
            for class_name, text in classes.items():
                owner = getattr(module, class_name)
                self.assertEqual(owner.__module__, f"risingcalls.{place}")
                self.assertEqual(owner.__bases__, (object,))
                for part in parts(text):
                    name = part.partition("(")[0]
                    self.assertIn(name, vars(owner))
                    signature = inspect.signature(inspect.getattr_static(owner, name).__func__
                                                  if name in STATIC else vars(owner)[name])
                    self.assertEqual(f"{name}{signature}", part)

    def test_static_methods_and_properties(self):
        for place, owner, name, sort in (
                ("goals", "Goals", "all_wanted", staticmethod), ("costs", "Weights", "even", staticmethod),
                ("marks", "Marks", "kinds", property), ("foebooks", "FoeBook", "leap", property),
                ("costs", "Weights", "weight_sum", property)):
            module = importlib.import_module(f"risingcalls.{place}")
            self.assertIsInstance(vars(getattr(module, owner))[name], sort)

    def test_constants(self):
        basics = importlib.import_module("risingcalls.basics")
        for name, value in CONSTANTS.items():
            self.assertEqual(getattr(basics, name), value)
            self.assertIs(type(getattr(basics, name)), int)


if __name__ == "__main__":
    unittest.main()
