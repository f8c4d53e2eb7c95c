"""What holds for all functions of the interface [0.2]."""

import copy
import importlib
import inspect
import unittest

from quicktongue.errors import QuickError
from quicktongue.texts import read, written
from tests.support import ODD_VALUES

TEXT = "fun marks(x; a)\n  each x as r, l\n    set a = a + 1\n  give a"
PROGRAM = read(TEXT)
RAW = (("raw", "f", ("a", "x"), (), (("each", "x", "r", "l", ()),), (("name", "a"),)),)
X = (((1,), 1),)
TABLE = ((X, (((0,), 2), ((1,), 4))),)

# For each function of the interface: its module, its parameters, and right arguments.
FUNCTIONS = {
    "is_word": ("trees", ("thing",), ("01",)),
    "is_name": ("trees", ("thing",), ("x",)),
    "is_term": ("trees", ("thing",), (("name", "x"),)),
    "is_command": ("trees", ("thing",), (("let", "x", ("name", "x")),)),
    "is_tree": ("trees", ("thing",), (PROGRAM,)),
    "written": ("texts", ("tree",), (PROGRAM,)),
    "read": ("texts", ("text",), (TEXT,)),
    "judge_levels": ("levels", ("tree",), (PROGRAM,)),
    "levels_hold": ("levels", ("tree", "thing"), (PROGRAM, ("fit",))),
    "is_program": ("levels", ("thing",), (PROGRAM,)),
    "names_at": ("levels", ("tree", "path"), (PROGRAM, (0, 6, 0))),
    "is_raw": ("levels", ("thing",), (RAW,)),
    "judge_split": ("levels", ("raw",), (RAW,)),
    "split_holds": ("levels", ("raw", "thing"), (RAW, ("none",))),
    "run": ("meaning", ("program", "f", "leads", "softs"), (PROGRAM, "marks", ("01",), ("1",))),
    "trace": ("meaning", ("program", "f", "leads", "softs"), (PROGRAM, "marks", ("01",), ("1",))),
    "is_poly": ("polys", ("k", "thing"), (1, X)),
    "poly_value": ("polys", ("k", "poly", "lengths"), (1, X, (7,))),
    "poly_sum": ("polys", ("k", "one", "other"), (1, X, X)),
    "poly_product": ("polys", ("k", "one", "other"), (1, X, X)),
    "poly_greater": ("polys", ("k", "one", "other"), (1, X, X)),
    "is_at_most": ("polys", ("k", "one", "other"), (1, X, X)),
    "put_in": ("polys", ("k", "poly", "m", "parts"), (1, X, 1, (X,))),
    "bounds": ("bounds", ("program",), (PROGRAM,)),
    "judge_table": ("bounds", ("program", "table"), (PROGRAM, TABLE)),
    "table_holds": ("bounds", ("program", "table", "thing"), (PROGRAM, TABLE, ("right",))),
}


def outcome(function, arguments):
    """What a call returns, or the error that it raises, with what this keeps."""
    try:
        return ("returned", function(*arguments))
    except QuickError as error:
        return (type(error).__name__, vars(error))


def same(one, other):
    """Whether two values are equal with True unlike 1."""
    return one == other and repr(one) == repr(other)


class ConventionsTest(unittest.TestCase):
    def each_function(self):
        for name, (file, parameters, arguments) in FUNCTIONS.items():
            yield name, getattr(importlib.import_module("quicktongue." + file), name), parameters, arguments

    def test_functions_are_defined_where_they_are_listed(self):
        for name, function, parameters, _ in self.each_function():
            self.assertEqual(function.__module__, "quicktongue." + FUNCTIONS[name][0])
            self.assertEqual(tuple(inspect.signature(function).parameters), parameters)

    def test_by_position_and_by_name(self):
        for name, function, parameters, arguments in self.each_function():
            by_position = function(*arguments)
            self.assertTrue(same(by_position, function(**dict(zip(parameters, arguments)))), name)
            mixed = dict(list(zip(parameters, arguments))[1:])
            self.assertTrue(same(by_position, function(arguments[0], **mixed)), name)
            backwards = dict(reversed(list(zip(parameters, arguments))))
            self.assertTrue(same(by_position, function(**backwards)), name)

    def test_results_consist_of_what_they_may(self):
        for name, function, _, arguments in self.each_function():
            self.plain(function(*arguments))
            if name.startswith("is_") or name.endswith(("_holds", "_hold")):
                self.assertIn(function(*arguments), (True, False))
                self.assertIs(type(function(*arguments)), bool)

    def plain(self, value):
        self.assertIn(type(value), (int, str, bool, type(None), tuple))
        if type(value) is tuple:
            for part in value:
                self.plain(part)

    def test_nothing_is_changed_and_calls_can_be_repeated(self):
        for _, function, parameters, arguments in self.each_function():
            for at in range(len(parameters)):
                if parameters[at] in ("k", "m"):
                    continue
                for value in (arguments[at],) + ODD_VALUES:
                    passed = arguments[:at] + (value,) + arguments[at + 1:]
                    before = copy.deepcopy(passed)
                    first = outcome(function, passed)
                    self.assertTrue(same(passed, before))
                    self.assertTrue(same(outcome(function, passed), first))
                    self.assertTrue(same(passed, before))

    def test_the_first_wrong_argument_is_named(self):
        bad = ["bad"]
        for name, error in (
                ("written", "BadTree"), ("judge_levels", "BadTree"), ("levels_hold", "BadTree"), ("names_at", "BadTree"),
                ("judge_split", "BadRaw"), ("split_holds", "BadRaw"), ("run", "BadProgram"), ("trace", "BadProgram"),
                ("bounds", "BadProgram"), ("judge_table", "BadProgram"), ("table_holds", "BadProgram")):
            _, parameters, arguments = FUNCTIONS[name]
            function = getattr(importlib.import_module("quicktongue." + FUNCTIONS[name][0]), name)
            others = [[] for _ in parameters[1:]]
            self.assertEqual(outcome(function, (bad, *others)), (error, {"thing": bad}))
            self.assertEqual(outcome(function, (bad, *arguments[1:])), (error, {"thing": bad}))

    def test_what_the_package_returns_can_be_passed_on(self):
        modules = {name: function for name, function, _, _ in self.each_function()}
        self.assertEqual(read(written(modules["judge_split"](RAW)[1])), modules["judge_split"](RAW)[1])
        self.assertEqual(modules["judge_table"](PROGRAM, modules["bounds"](PROGRAM)), ("right",))
        self.assertIs(modules["levels_hold"](PROGRAM, modules["judge_levels"](PROGRAM)), True)
        outcomes, _ = modules["run"](PROGRAM, "marks", ("01",), ("1",))
        self.assertEqual(modules["run"](PROGRAM, "marks", outcomes, outcomes)[0], ("111111",))
