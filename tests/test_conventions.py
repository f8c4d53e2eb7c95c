"""What holds for all functions of the interface [0.2]."""

import copy
import importlib
import inspect
import unittest

from quicktongue.compiler import plain_unit
from quicktongue.errors import QuickError
from quicktongue.texts import read, written
from tests.support import ODD_VALUES

TEXT = "fun marks(x; a)\n  each x as r, l\n    set a = a + 1\n  give a"
PROGRAM = read(TEXT)
RAW = (("raw", "f", ("a", "x"), (), (("each", "x", "r", "l", ()),), (("name", "a"),)),)
X = (((1,), 1),)
TABLE = ((X, (((0,), 2), ((1,), 4))),)
STEPS = read('fun f(x; a)\n  set a = x\n  give "0" + 1')
UNIT = plain_unit(PROGRAM)
SHARING = (((0, 1, 2), (0, 0)),)
BEGINNING = ((0, 0, ("01", None, None), ("1", ""), ()),)
BYTES = (81, 84, 0, 1, 0, 1, 0, 1, 11, 1, 128, 1, 1, 102, 0)
MACHINE = (((1, "stay"), (0, "cut"), (1, "put1")),)
RUNNER = read("fun f(p, x;)\n  give cut x")
OTHER = read("fun g(x;)\n  give cut x")
UNIT_TEXT = "code 0 1 0 1\ngive (s0)\nshow f 0"
USER = ((("marks", 1, 1, 1),), ((1, 0, 1, 1, (("call", 0, (("l", 0),), (("l", 0),), (("s", 0),)), ("give", (("s", 0),)))),), ())

# For each function of the interface: its module, its name, its parameters, and right arguments.
FUNCTIONS = (
    ("trees", "is_word", ("thing",), ("01",)),
    ("trees", "is_name", ("thing",), ("x",)),
    ("trees", "is_term", ("thing",), (("name", "x"),)),
    ("trees", "is_command", ("thing",), (("let", "x", ("name", "x")),)),
    ("trees", "is_tree", ("thing",), (PROGRAM,)),
    ("texts", "written", ("tree",), (PROGRAM,)),
    ("texts", "read", ("text",), (TEXT,)),
    ("levels", "judge_levels", ("tree",), (PROGRAM,)),
    ("levels", "levels_hold", ("tree", "thing"), (PROGRAM, ("fit",))),
    ("levels", "is_program", ("thing",), (PROGRAM,)),
    ("levels", "names_at", ("tree", "path"), (PROGRAM, (0, 6, 0))),
    ("levels", "is_raw", ("thing",), (RAW,)),
    ("levels", "judge_split", ("raw",), (RAW,)),
    ("levels", "split_holds", ("raw", "thing"), (RAW, ("none",))),
    ("meaning", "run", ("program", "f", "leads", "softs"), (PROGRAM, "marks", ("01",), ("1",))),
    ("meaning", "trace", ("program", "f", "leads", "softs"), (PROGRAM, "marks", ("01",), ("1",))),
    ("polys", "is_poly", ("k", "thing"), (1, X)),
    ("polys", "poly_value", ("k", "poly", "lengths"), (1, X, (7,))),
    ("polys", "poly_sum", ("k", "one", "other"), (1, X, X)),
    ("polys", "poly_product", ("k", "one", "other"), (1, X, X)),
    ("polys", "poly_greater", ("k", "one", "other"), (1, X, X)),
    ("polys", "is_at_most", ("k", "one", "other"), (1, X, X)),
    ("polys", "put_in", ("k", "poly", "m", "parts"), (1, X, 1, (X,))),
    ("bounds", "bounds", ("program",), (PROGRAM,)),
    ("bounds", "judge_table", ("program", "table"), (PROGRAM, TABLE)),
    ("bounds", "table_holds", ("program", "table", "thing"), (PROGRAM, TABLE, ("right",))),
    ("shelf", "shelf", (), ()),
    ("shelf", "number_of", ("word",), ("0110",)),
    ("shelf", "plain_word", ("number",), (10,)),
    ("simplify", "needed_behind", ("program", "path"), (PROGRAM, (0, 5, 0))),
    ("simplify", "steps_from", ("program",), (STEPS,)),
    ("simplify", "is_step", ("program", "thing"), (STEPS, ("known", (0, 6, 0)))),
    ("simplify", "behind_step", ("program", "step"), (STEPS, ("known", (0, 6, 0)))),
    ("simplify", "simplifying", ("program",), (STEPS,)),
    ("simplify", "simplified", ("program",), (STEPS,)),
    ("code", "is_unit", ("thing",), (UNIT,)),
    ("code", "first_fault", ("unit",), (UNIT,)),
    ("code", "is_taken", ("thing",), (UNIT,)),
    ("code", "set_ahead", ("unit", "f", "row"), (UNIT, 0, 1)),
    ("codebounds", "code_bounds", ("unit",), (UNIT,)),
    ("machine", "beginning", ("unit", "f", "leads", "softs"), (UNIT, 0, ("01",), ("1",))),
    ("machine", "is_standing", ("unit", "thing"), (UNIT, BEGINNING)),
    ("machine", "step", ("unit", "standing"), (UNIT, BEGINNING)),
    ("machine", "rest_of_run", ("unit", "standing"), (UNIT, BEGINNING)),
    ("machine", "run", ("unit", "f", "leads", "softs"), (UNIT, 0, ("01",), ("1",))),
    ("compiler", "plain_unit", ("program",), (PROGRAM,)),
    ("compiler", "homes", ("program",), (PROGRAM,)),
    ("registers", "needed_behind_row", ("unit", "f", "row"), (UNIT, 0, 1)),
    ("registers", "judge_sharing", ("unit", "sharing"), (UNIT, SHARING)),
    ("registers", "sharing_holds", ("unit", "sharing", "thing"), (UNIT, SHARING, ("apart",))),
    ("registers", "shared", ("unit", "sharing"), (UNIT, SHARING)),
    ("registers", "sharing_of", ("unit",), (UNIT,)),
    ("bytework", "bytes_of", ("unit",), (UNIT,)),
    ("bytework", "unit_of", ("code",), (BYTES,)),
    ("loader", "load", ("code",), (BYTES,)),
    ("loader", "load_bounds", ("code",), (BYTES,)),
    ("assembler", "text_of_unit", ("unit",), (UNIT,)),
    ("assembler", "unit_of_text", ("text",), (UNIT_TEXT,)),
    ("linker", "judge_link", ("units",), ((UNIT, USER),)),
    ("linker", "link_holds", ("units", "thing"), ((USER,), ("lacks", 0, 0))),
    ("piles", "is_machine", ("thing",), (MACHINE,)),
    ("piles", "pile_step", ("machine", "standing"), (MACHINE, (0, "1", ""))),
    ("piles", "standing_after", ("machine", "word", "many"), (MACHINE, "1000", 5)),
    ("piles", "outcome", ("machine", "c", "d", "word"), (MACHINE, 1, 1, "1000")),
    ("made", "made", ("machine", "c", "d"), (MACHINE, 1, 1)),
    ("made", "clock_program", ("c", "d"), (2, 3)),
    ("outwit", "word_of_text", ("text",), ("a0",)),
    ("outwit", "text_of_word", ("word",), ("11000010110000",)),
    ("outwit", "outwit", ("program", "f"), (RUNNER, "f")),
    ("outwit", "does_err", ("program", "f", "other", "word"), (RUNNER, "f", OTHER, "0101")),
    ("chain", "made_bytes", ("program",), (PROGRAM,)),
    ("chain", "chained", ("program", "f", "leads", "softs"), (PROGRAM, "marks", ("01",), ("1",))),
    ("chain", "chain_bounds", ("program",), (PROGRAM,)),
)
# Numbers that count steps or letters; a call with a far larger one would not end.
COUNTS = ("c", "d", "many")


def function_of(module, name):
    """A function of the interface."""
    return getattr(importlib.import_module("quicktongue." + module), name)


def outcome(function, arguments):
    """What a call returns, or the error that it raises, with what this keeps."""
    try:
        return ("returned", function(*arguments))
    except QuickError as error:
        return (type(error).__name__, vars(error))


def same(one, other):
    """Whether two values are equal with True unlike 1."""
    return one == other and repr(one) == repr(other)


class ConventionsTest(unittest.TestCase):
    def each_function(self):
        for module, name, parameters, arguments in FUNCTIONS:
            yield name, function_of(module, name), parameters, arguments

    def test_functions_are_defined_where_they_are_listed(self):
        for module, name, parameters, _ in FUNCTIONS:
            function = function_of(module, name)
            self.assertEqual(function.__module__, "quicktongue." + module)
            self.assertEqual(function.__name__, name)
            self.assertEqual(tuple(inspect.signature(function).parameters), parameters)

    def test_by_position_and_by_name(self):
        for name, function, parameters, arguments in self.each_function():
            by_position = function(*arguments)
            self.assertTrue(same(by_position, function(**dict(zip(parameters, arguments)))), name)
            backwards = dict(reversed(list(zip(parameters, arguments))))
            self.assertTrue(same(by_position, function(**backwards)), name)
            for many in range(len(parameters)):
                mixed = dict(list(zip(parameters, arguments))[many:])
                self.assertTrue(same(by_position, function(*arguments[:many], **mixed)), name)

    def test_results_consist_of_what_they_may(self):
        for name, function, _, arguments in self.each_function():
            self.plain(function(*arguments))
            if name.startswith("is_") or name.endswith(("_holds", "_hold")):
                self.assertIn(function(*arguments), (True, False))
                self.assertIs(type(function(*arguments)), bool)

    def plain(self, value):
        self.assertIn(type(value), (int, str, bool, type(None), tuple))
        if type(value) is tuple:
            for part in value:
                self.plain(part)

    def test_nothing_is_changed_and_calls_can_be_repeated(self):
        for _, function, parameters, arguments in self.each_function():
            for at in range(len(parameters)):
                if parameters[at] in ("k", "m"):
                    continue
                for value in (arguments[at],) + ODD_VALUES:
                    if parameters[at] in COUNTS and type(value) is int and value > 100:
                        continue
                    passed = arguments[:at] + (value,) + arguments[at + 1:]
                    before = copy.deepcopy(passed)
                    first = outcome(function, passed)
                    self.assertTrue(same(passed, before))
                    self.assertTrue(same(outcome(function, passed), first))
                    self.assertTrue(same(passed, before))

    def test_the_first_wrong_argument_is_named(self):
        errors = {"tree": "BadTree", "raw": "BadRaw", "program": "BadProgram", "word": "BadWord", "unit": "BadUnit",
                  "units": "BadUnits", "machine": "BadMachine"}
        checked = 0
        for name, function, parameters, arguments in self.each_function():
            if parameters and parameters[0] in errors:
                bad = ["bad"]
                told = (errors[parameters[0]], {"thing": bad})
                others = [[] for _ in parameters[1:]]
                self.assertEqual(outcome(function, (bad, *others)), told, name)
                self.assertEqual(outcome(function, (bad, *arguments[1:])), told, name)
                checked += 1
        self.assertEqual(checked, 47)

    def test_the_order_of_errors(self):
        bad, worse = ["bad"], ["worse"]
        for module, name, arguments, error, at in (
                ("levels", "names_at", (PROGRAM, bad), "BadPath", 1), ("meaning", "run", (PROGRAM, bad, worse, None), "BadName", 1),
                ("meaning", "run", (PROGRAM, "marks", bad, worse), "BadInputs", 2),
                ("meaning", "trace", (PROGRAM, "marks", ("0",), bad), "BadInputs", 3),
                ("bounds", "table_holds", (PROGRAM, bad, worse), "BadTable", 1), ("simplify", "needed_behind", (PROGRAM, bad), "BadPath", 1),
                ("simplify", "behind_step", (PROGRAM, bad), "BadStep", 1), ("code", "set_ahead", (UNIT, bad, worse), "BadNumber", 1),
                ("code", "set_ahead", (UNIT, 0, bad), "BadNumber", 2), ("machine", "beginning", (UNIT, bad, worse, None), "BadNumber", 1),
                ("machine", "beginning", (UNIT, 0, bad, worse), "BadInputs", 2), ("machine", "run", (UNIT, 0, ("0",), bad), "BadInputs", 3),
                ("machine", "run", (UNIT, bad, worse, None), "BadNumber", 1), ("machine", "run", (UNIT, 0, bad, worse), "BadInputs", 2),
                ("machine", "step", (UNIT, bad), "BadStanding", 1), ("machine", "rest_of_run", (UNIT, bad), "BadStanding", 1),
                ("registers", "needed_behind_row", (UNIT, bad, worse), "BadNumber", 1),
                ("registers", "needed_behind_row", (UNIT, 0, bad), "BadNumber", 2), ("registers", "judge_sharing", (UNIT, bad), "BadSharing", 1),
                ("registers", "sharing_holds", (UNIT, bad, worse), "BadSharing", 1), ("registers", "shared", (UNIT, bad), "BadSharing", 1),
                ("linker", "link_holds", (bad, worse), "BadUnits", 0), ("piles", "pile_step", (MACHINE, bad), "BadStanding", 1),
                ("piles", "standing_after", (MACHINE, bad, worse), "BadWord", 1), ("piles", "standing_after", (MACHINE, "0", bad), "BadNumber", 2),
                ("piles", "outcome", (MACHINE, bad, worse, None), "BadNumber", 1), ("piles", "outcome", (MACHINE, 1, bad, worse), "BadNumber", 2),
                ("piles", "outcome", (MACHINE, 1, 1, bad), "BadWord", 3), ("made", "made", (MACHINE, bad, worse), "BadNumber", 1),
                ("made", "made", (MACHINE, 1, bad), "BadNumber", 2), ("made", "clock_program", (bad, worse), "BadNumber", 0),
                ("made", "clock_program", (1, bad), "BadNumber", 1), ("outwit", "outwit", (RUNNER, bad), "BadName", 1),
                ("outwit", "does_err", (RUNNER, bad, worse, None), "BadName", 1), ("outwit", "does_err", (RUNNER, "f", bad, worse), "BadProgram", 2),
                ("outwit", "does_err", (RUNNER, "f", OTHER, bad), "BadWord", 3), ("chain", "chained", (PROGRAM, bad, worse, None), "BadName", 1),
                ("chain", "chained", (PROGRAM, "marks", bad, worse), "BadInputs", 2),
                ("chain", "chained", (PROGRAM, "marks", ("0",), bad), "BadInputs", 3)):
            self.assertEqual(outcome(function_of(module, name), arguments), (error, {"thing": arguments[at]}), name)

    def test_what_the_package_returns_can_be_passed_on(self):
        self.assertEqual(read(written(function_of("levels", "judge_split")(RAW)[1])), function_of("levels", "judge_split")(RAW)[1])
        self.assertEqual(function_of("bounds", "judge_table")(PROGRAM, function_of("bounds", "bounds")(PROGRAM)), ("right",))
        self.assertIs(function_of("levels", "levels_hold")(PROGRAM, function_of("levels", "judge_levels")(PROGRAM)), True)
        run = function_of("meaning", "run")
        outcomes, _ = run(PROGRAM, "marks", ("01",), ("1",))
        self.assertEqual(run(PROGRAM, "marks", outcomes, outcomes)[0], ("111111",))
        steps = function_of("simplify", "steps_from")(STEPS)
        self.assertIs(function_of("simplify", "is_step")(STEPS, steps[0]), True)
        shared, sharing_of = function_of("registers", "shared"), function_of("registers", "sharing_of")
        self.assertIs(function_of("code", "is_taken")(shared(UNIT, sharing_of(UNIT))), True)
        self.assertEqual(function_of("machine", "beginning")(UNIT, 0, ("01",), ("1",)), BEGINNING)
        standing, _ = function_of("machine", "step")(UNIT, BEGINNING)
        self.assertIs(function_of("machine", "is_standing")(UNIT, standing), True)
        bytes_of, load = function_of("bytework", "bytes_of"), function_of("loader", "load")
        self.assertEqual(load(bytes_of(UNIT)), UNIT)
        self.assertEqual(function_of("assembler", "unit_of_text")(function_of("assembler", "text_of_unit")(UNIT)), UNIT)
        linked = function_of("linker", "judge_link")((load(bytes_of(UNIT)), USER))[1]
        self.assertIs(function_of("code", "is_taken")(linked), True)
        self.assertEqual(load(function_of("chain", "made_bytes")(function_of("made", "made")(MACHINE, 2, 3)))[0], ())
        does_err, outwit = function_of("outwit", "does_err"), function_of("outwit", "outwit")
        self.assertIs(does_err(RUNNER, "f", *outwit(RUNNER, "f")), True)
