"""What holds of every function (point 1): kinds of arguments, the order of errors, and answers that stay the same."""

import copy
import importlib
import unittest
from itertools import combinations

from onelife.errors import (
    BadHeard, BadHouse, BadLengths, BadLife, BadMachine, BadManner, BadMarks, BadNumber, BadProgram, BadRows, BadSpelled,
    BadStory, BadString, BadTable, BadWeights)
from onelife.ports import port_machine
from tests.test_interface import FUNCTIONS
from tests.tools import BIRTH, Case

MACHINE = (((1, "a"), (0, None)), ((1, "b"), (0, "b")))
TABLE = (((0, 1), (1, 1)), ((1,), (0, 1)))
STORY = (("boot", BIRTH), ("ask", 1), ("turn",), ("cut",), ("boot", (1, 1, (1,), 1)), ("turn",), ("ask", 0))
LED_STORY = (("boot", (0, None, (), ())), ("go", 0), ("cut",), ("boot", (1, 0, (), (0,))), ("go", 1), ("go", 0))
CHANCES = ((1, 3), (2, 1))
CELLS = (("a", 3), ("b", 2))
PROGRAM = (CELLS, (
    ("set", "a", "b", 1), ("set", "b", None, 1), ("while", ("b", True, 1), (("say", "x"), ("set", "b", None, 0))),
    ("if", ("a", False, 0), (("choose", (("y", (("stop",),)), (None, ()))),), (("stop",),))))
TILL = ((1, 0, 1), 1, (("pay", 0, 1), ("pay", 0, 2), ("give", 1), ("take", 0)))
# One coin is paid to two persons.
CHEAT = ((1, 0, 0), 0, (("pay", 0, 1), ("pay", 0, 2)))
CHEAT_TABLE = (((0,), (0,)), (), ())
TWICE = (("boot", BIRTH), ("ask", 0), ("cut",), ("boot", BIRTH), ("ask", 1), ("turn",), ("cut",), ("boot", (1, 0, (0,), 1)))
OTHER_TABLE = (((1,), (0, 1, 0)), ((0, 1, 1), (1,)))
PORTS = (0, 1, 1, False)
LANES = [tuple([((0,), (1, 0))[:len(state)] for state in port_machine(PORTS, side)]) for side in (0, 1)]
BOTH = tuple([(1, step) for step in (("boot", BIRTH), ("ask", 0), ("turn",), ("cut",))]
             + [(0, step) for step in (("boot", BIRTH), ("ask", 0), ("turn",))])

GOOD = {
    "machine": MACHINE, "marks": 2, "table": TABLE, "life": (0, 1), "one": (0, 0, 1), "other": (0, 0), "length": 1,
    "rows": ((0, 1), (1,)), "story": STORY, "many": 1, "lengths": (2, 1, 3), "weights": (1, 0, 7), "most": 1,
    "manner": "late", "text": "", "program": PROGRAM, "till": TILL, "heard": ((1, "givea"), (0, "payab")),
    "first": TABLE, "second": OTHER_TABLE, "spelled": (0, 1, 1), "options": 2, "turns": 3, "number": 1, "teeth": 1,
    "long": 1, "ports": PORTS, "side": 1}

# What is good for functions of some files or names, ahead of what is good for all.
GOOD_FOR = {
    "joined": {"one": MACHINE, "other": MACHINE}, "unions": {"one": MACHINE, "other": MACHINE[:1] + ((),)},
    "joined_table": {"second": OTHER_TABLE[:1] + ((),)}, "led": {"story": LED_STORY}, "harms": {"most": 4},
    "witnesses": {"heard": ((4, "b"), (2, "a"), (4, "b"))}, "budgets": {"one": TABLE, "other": OTHER_TABLE},
    "ports": {"one": LANES[0], "other": LANES[1], "story": BOTH, "life": (1, 0, 0), "most": 6},
    "shows_coins": {"most": 7},
    "means": {"weights": CHANCES}, "read_machine": {"text": "= 0"}, "programs": {"life": (0, 0)},
    "most_too_much": {"till": CHEAT, "table": CHEAT_TABLE, "most": 9},
    "shows_worst": {"till": CHEAT, "table": CHEAT_TABLE, "most": 8}}

ERRORS = {
    "machine": BadMachine, "marks": BadMarks, "table": BadTable, "life": BadLife, "one": BadLife, "other": BadLife,
    "length": BadNumber, "rows": BadRows, "story": BadStory, "many": BadNumber, "lengths": BadLengths,
    "weights": BadWeights, "most": BadNumber, "manner": BadManner, "text": BadString, "program": BadProgram,
    "till": BadHouse, "heard": BadHeard, "first": BadTable, "second": BadTable, "spelled": BadSpelled,
    "options": BadNumber, "turns": BadNumber, "number": BadNumber, "teeth": BadNumber, "long": BadNumber,
    "ports": BadHouse, "side": BadNumber}
MACHINES, TABLES = [{"one": error, "other": error} for error in (BadMachine, BadTable)]
ERRORS_FOR = {"joined": MACHINES, "unions": MACHINES, "budgets": TABLES, "ports": TABLES}
# Numbers that may be as large as 2000.
LARGE = ("options", "turns", "teeth")

# The functions that make what those whose names begin with shows are to show.
MAKERS = {
    "shows_parting": "pairs.parting", "shows_closed": "pairs.closed_paper", "shows_story": "tricks.story_of",
    "shows_cheapest": "codes.cheapest_rows", "shows_least_table": "searches.least_table",
    "shows_harm": "harms.harm_of", "shows_cheapest_table": "means.cheapest_table"}

# What these functions show cannot be made by a function.
SHOWN = {"shows_worst": TWICE, "shows_coins": BOTH}

# Values that are wrong for each argument, and values that hash and compare in unlike ways.
WRONG = (None, True, False, -1, 41, 10 ** 30, "", "abc", [], [1], {}, {"a": [1]}, {(1, 2): None}, (None,), (True,), ([],),
         ({},), ((),) * 300, (((True,),),), (("a",),), ((("b", "a"),),), (("boot",),), ((41,),), ((0, -1),), (("cut",),))


def every_function():
    """Each function with the names of its arguments."""
    for module, functions in FUNCTIONS.items():
        found = importlib.import_module("onelife." + module)
        for name, arguments in functions.items():
            yield getattr(found, name), arguments.split(", ")


def good_arguments(function, names):
    """Arguments without an error; of a function that shows something, the last one is a value that it shows."""
    module, own = function.__module__.split(".")[1], function.__name__
    good = {**GOOD, **GOOD_FOR.get(module, {}), **GOOD_FOR.get(own, {})}
    arguments = [good[name] for name in names if name != "value"]
    if "value" in names:
        arguments.append(shown_value(function, arguments))
    return arguments


def shown_value(function, arguments):
    if function.__name__ in SHOWN:
        return SHOWN[function.__name__]
    module, name = MAKERS[function.__name__].split(".")
    return getattr(importlib.import_module("onelife." + module), name)(*arguments)


def wrong_for(function, name):
    """Values that are wrong for an argument of a function."""
    if name == "text":
        return [value for value in WRONG if not isinstance(value, str)]
    if name in LARGE and function.__name__ != "nth_life":
        return [value for value in WRONG if value != 41]
    if function.__name__ == "write_story":
        return [value for value in WRONG if value != (("cut",),)]
    return list(WRONG)


def error_for(function, name):
    wanted = {**ERRORS, **ERRORS_FOR.get(function.__module__.split(".")[1], {}), **ERRORS_FOR.get(function.__name__, {})}
    return wanted[name]


def changed_once(value, change):
    """All values in which just one part, however deep, is changed; a part that can't be is left out."""
    found = [value_of for value_of in [change(value)] if value_of is not None]
    if isinstance(value, tuple):
        for at, part in enumerate(value):
            found.extend([value[:at] + (other,) + value[at + 1:] for other in changed_once(part, change)])
    return found


def as_truth_value(value):
    return bool(value) if isinstance(value, int) and not isinstance(value, bool) and value in (0, 1) else None


def as_list(value):
    return list(value) if isinstance(value, tuple) else None


class ArgumentsTest(Case):
    def test_good_arguments_are_good(self):
        for function, names in every_function():
            arguments = good_arguments(function, names)
            found = function(*arguments)
            if "value" in names:
                self.same(found, True)
            self.assertNotIsInstance(found, (list, dict, set))

    def test_equal_arguments_have_equal_answers_and_are_not_modified(self):
        for function, names in every_function():
            arguments = good_arguments(function, names)
            kept = copy.deepcopy(arguments)
            self.same(function(*arguments), function(*kept))
            self.same(arguments, kept)

    def test_wrong_values_are_not_modified(self):
        for function, names in every_function():
            for at in range(len(names)):
                wrong = good_arguments(function, names)
                wrong[at] = [[1, {"a": []}], {0: [0]}]
                kept = copy.deepcopy(wrong)
                try:
                    function(*wrong)
                except ValueError:
                    pass
                self.same(wrong, kept)

    def expect(self, function, names, arguments, at):
        """The error of the argument at this place, or False if it is what a function shows."""
        if names[at] == "value":
            none = arguments[at] is None and shown_value(function, arguments[:at]) is None
            self.same(function(*arguments), none)
            return
        with self.assertRaises(ValueError) as caught:
            function(*arguments)
        wanted = error_for(function, names[at])
        self.assertEqual(type(caught.exception).__name__, wanted.__name__, (function, arguments))

    def test_wrong_values(self):
        for function, names in every_function():
            for at in range(len(names)):
                for value in wrong_for(function, names[at]):
                    arguments = good_arguments(function, names)
                    arguments[at] = value
                    self.expect(function, names, arguments, at)

    def test_truth_values_are_no_integers(self):
        changed = 0
        for function, names in every_function():
            good = good_arguments(function, names)
            for at, argument in enumerate(good):
                for value in changed_once(argument, as_truth_value):
                    self.expect(function, names, good[:at] + [value] + good[at + 1:], at)
                    changed += 1
        self.assertGreater(changed, 600)

    def test_lists_are_no_tuples(self):
        for function, names in every_function():
            good = good_arguments(function, names)
            for at, argument in enumerate(good):
                for value in changed_once(argument, as_list):
                    self.expect(function, names, good[:at] + [value] + good[at + 1:], at)

    def test_leftmost_error(self):
        for function, names in every_function():
            checked = [at for at, name in enumerate(names) if name != "value"]
            for first, second in combinations(range(len(names)), 2):
                if first not in checked:
                    continue
                for value in (None, True, [], {}, "abc", (None,), ({},)):
                    arguments = good_arguments(function, names)
                    arguments[first] = value
                    arguments[second] = {}
                    self.expect(function, names, arguments, first)
            self.expect(function, names, [None] * len(names), 0)

    def test_deep_values(self):
        deep = ()
        for _ in range(5000):
            deep = (deep,)
        for function, names in every_function():
            for at in range(len(names)):
                arguments = good_arguments(function, names)
                arguments[at] = deep
                self.expect(function, names, arguments, at)


if __name__ == "__main__":
    unittest.main()
