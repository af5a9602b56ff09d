"""The names of the interface, where they are defined and what they take."""

import importlib
import inspect
import unittest

from onelife import errors
from onelife.benches import Bench

FUNCTIONS = {
    "machines": {
        "end_of": "machine, life", "words_of": "machine, life", "lives": "machine, length", "can_come": "machine",
        "is_loud": "machine"},
    "tables": {
        "spelled": "machine, marks, table, life", "telling": "machine, marks, table, life", "clash_of": "rows",
        "is_apart": "machine, marks, table", "is_full": "marks, rows", "share": "marks, rows"},
    "worlds": {name: "machine, marks, table, story" for name in (
        "wheel_after", "shelf_after", "heard", "spoken", "stands", "is_dead", "two_lives")},
    "pairs": {
        "is_safe": "machine, marks, table", "parting": "machine, marks, table",
        "closed_paper": "machine, marks, table", "shows_parting": "machine, marks, table, value",
        "shows_closed": "machine, marks, table, value"},
    "tricks": {
        "story_of": "machine, marks, table, one, other", "shows_story": "machine, marks, table, one, other, value"},
    "codes": {
        "least_longest": "marks, many", "least_price": "marks, weights",
        "least_price_within": "marks, weights, most", "least_price_in_order": "marks, weights",
        "rows_for": "marks, lengths", "cheapest_rows": "marks, weights", "shows_cheapest": "marks, weights, value",
        "loud_table": "machine, marks"},
    "searches": {"least_table": "machine, marks, most", "shows_least_table": "machine, marks, most, value"},
    "boxes": {"gathered": "machine, many", "joined": "one, other"},
    "led": {
        "led_heard": "machine, marks, table, story", "led_is_dead": "machine, marks, table, story",
        "never_dies": "machine, marks, table", "death_of": "machine, marks, table", "filled": "machine, marks, table"},
    "harms": {
        "harm_of": "machine, marks, table, manner, most", "shows_harm": "machine, marks, table, manner, most, value"},
    "texts": {"write_machine": "machine, table", "read_machine": "text"},
    "means": {
        "mean_total": "machine, marks, table, weights", "mean_pace": "machine, marks, table, weights",
        "cheapest_table": "machine, marks, weights", "shows_cheapest_table": "machine, marks, weights, value"},
    "programs": {
        "said": "program, life", "cells_after": "program, life", "machine_of": "program", "write_program": "program"},
    "readers": {"read_program": "text"},
    "tills": {
        "till_machine": "till", "till_stands": "till", "held_by": "till, heard", "too_much": "till, heard",
        "most_too_much": "till, marks, table, most", "shows_worst": "till, marks, table, most, value"},
    "witnesses": {"one_life": "machine, marks, table, heard", "least_lot": "machine, marks, table, heard"},
    "reports": {
        "write_story": "story", "read_story": "text", "report": "machine, marks, table, story",
        "tell_lives": "machine, marks, table, one, other"},
    "unions": {"joined_table": "one, other, marks, first, second", "parted_life": "one, other, life"},
    "readings": {name: "machine, marks, table, spelled" for name in (
        "lives_at", "places_at", "marks_next", "told_at")},
    "counts": {
        "count_lives": "machine, options", "count_spelled": "machine, marks, table, turns",
        "fewest_turns": "machine, marks, table, options", "most_turns": "machine, marks, table, options",
        "life_number": "machine, life", "nth_life": "machine, options, number"},
    "ports": {
        "port_machine": "ports, side", "port_stand": "ports, side, life", "both_heard": "ports, marks, one, other, story",
        "coins_behind": "ports, marks, one, other, story", "on_the_way": "ports, marks, one, other, story",
        "most_coins": "ports, marks, one, other, most", "shows_coins": "ports, marks, one, other, most, value"},
    "families": {name: "marks, many, long" for name in ("count_apart", "count_full", "every_apart")},
    "budgets": {
        "most_options": "machine, marks, table, teeth", "teeth_for": "machine, marks, table, options",
        "never_longer": "machine, marks, one, other", "most_longer": "machine, marks, one, other",
        "longer_life": "machine, marks, one, other"},
    "keepers": {name: "machine, marks, table, story" for name in (
        "lasting_notes", "idle_parts", "without_idle", "new_words", "unspoken")},
}

ERRORS = {
    "BadMachine": ["index"], "BadLife": [], "BadNumber": [], "BadMarks": [], "BadTable": ["index"], "BadRows": [],
    "BadStory": ["index"], "NotAlong": [], "BadLengths": [], "BadWeights": [], "NoTable": [], "NotApart": ["state"],
    "BadManner": [], "BadString": [], "BadLine": ["line", "word"], "BadStep": [], "TooMany": ["most"],
    "BadProgram": [], "Endless": [], "BadHouse": [], "BadHeard": ["index"], "BadSpelled": [],
}


BENCH_METHODS = {"boot": ["note"], "ask": ["option"], "turn": [], "cut": [], "seal": [], "harm": [], "fitting": []}
BENCH_PROPERTIES = ("wheel", "shelf", "stand", "told", "story")


class InterfaceTest(unittest.TestCase):
    def test_functions_are_defined_where_they_are_listed(self):
        for module, functions in FUNCTIONS.items():
            found = importlib.import_module("onelife." + module)
            for name, arguments in functions.items():
                function = getattr(found, name)
                self.assertEqual(function.__module__, "onelife." + module)
                self.assertEqual(", ".join(inspect.signature(function).parameters), arguments, name)

    def test_bench_defines_its_methods_and_properties_itself(self):
        self.assertEqual(Bench.__module__, "onelife.benches")
        made = inspect.signature(Bench)
        self.assertEqual(list(made.parameters), ["machine", "marks", "table", "manner"])
        self.assertEqual(made.parameters["manner"].default, "sealed")
        for name, arguments in BENCH_METHODS.items():
            method = vars(Bench)[name]
            self.assertEqual(list(inspect.signature(method).parameters), ["self"] + arguments, name)
        for name in BENCH_PROPERTIES:
            self.assertIsInstance(vars(Bench)[name], property)
            self.assertIsNone(vars(Bench)[name].fset)

    def test_errors_are_direct_subclasses_with_their_fields(self):
        self.assertEqual(errors.LifeError.__bases__, (ValueError,))
        for name, fields in ERRORS.items():
            error = getattr(errors, name)
            self.assertEqual(error.__bases__, (errors.LifeError,))
            self.assertEqual(error.__module__, "onelife.errors")
            made = error(*range(3, 3 + len(fields)))
            self.assertEqual(vars(made), dict(zip(fields, range(3, 6))))
            self.assertEqual(vars(error(**{field: None for field in fields})), {field: None for field in fields})
            self.assertIsInstance(made, ValueError)

    def test_there_is_no_other_error(self):
        classes = [name for name, value in vars(errors).items() if inspect.isclass(value)]
        self.assertEqual(sorted(classes), sorted([*ERRORS, "LifeError"]))


if __name__ == "__main__":
    unittest.main()
