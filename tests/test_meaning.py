"""Runs, their steps and traces [3.1, 3.2]."""

import random
import unittest

from quicktongue.errors import BadInputs, BadName, BadProgram
from quicktongue.levels import is_program
from quicktongue.meaning import run, trace
from quicktongue.texts import read
from tests.slow import slow_run
from tests.support import ODD_VALUES, ProgramMaker, bent

LIBRARY = (
    "fun marks(x; a)\n  each x as r, l\n    set a = a + 1\n  give a\n"
    "fun halves(x; a) own s\n  each x as r, l\n    set s, a = swap(; s, a + 0)\n  give s, a\n"
).replace("fun halves", "fun swap(; a, b)\n  give b, a\nfun halves")


class RunTest(unittest.TestCase):
    def gives(self, text, leads, softs, outcomes, steps):
        """The last function of the text has these outcomes in so many steps."""
        program = read(text)
        f = program[-1][1]
        self.assertEqual(run(program, f, leads, softs), (outcomes, steps))
        self.assertEqual(slow_run(program, f, leads, softs)[:2], (outcomes, steps))
        self.assertEqual(trace(program, f, leads, softs), slow_run(program, f, leads, softs)[2])

    def test_terms(self):
        for term, outcome, steps in (
                ("x", "01", 1), ("a", "1", 1), ("s", "", 1), ('""', "", 1), ('"0110"', "0110", 1), ("x + 0", "010", 2),
                ("x + 1 + 0", "0110", 3), ("cut x", "0", 2), ("cut cut x", "", 3), ("cut cut cut x", "", 4),
                ('cut ""', "", 2), ('cut "0"', "", 2), ("cut (x + 1)", "01", 3), ("cut x + 1", "01", 3), ("s + 0", "0", 2)):
            self.gives("fun f(x; a) own s\n  give " + term, ("01",), ("1",), (outcome,), steps)

    def test_several_gives(self):
        self.gives("fun f(x, y; a, b)\n  give b, x + 1, y, a, x", ("0", "00"), ("1", "11"), ("11", "01", "00", "1", "0"), 6)
        self.gives('fun f(;)\n  give ""', (), (), ("",), 1)

    def test_let_and_set(self):
        self.gives("fun f(x; a) own s\n  let y = cut x\n  set s = y + 1\n  set a = s\n  give a, y, s",
                   ("00",), ("111",), ("01", "0", "01"), 3 + 3 + 2 + 3)
        self.gives("fun f(; a)\n  set a = a + 0\n  set a = a + 1\n  give a", (), ("1",), ("101",), 3 + 3 + 1)

    def test_when(self):
        text = 'fun f(x; a)\n  when x\n    none\n      set a = ""\n    zero\n      set a = a + 0\n      set a = a + 0\n' \
               "    one\n      set a = a + 1 + 1\n  give a"
        self.gives(text, ("",), ("1",), ("",), 2 + 2 + 1)
        self.gives(text, ("10",), ("1",), ("100",), 2 + 6 + 1)
        self.gives(text, ("01",), ("1",), ("111",), 2 + 4 + 1)
        for word, steps in (("", 2), ("1", 2), ("0", 4)):
            self.gives("fun f(; a)\n  when a\n    zero\n      set a = a\n  give a", (), (word,), (word,), steps + 1)
        self.gives("fun f(; a)\n  when cut a\n  give a", (), ("1",), ("1",), 4)

    def test_each_goes_from_the_last_letter_to_the_first(self):
        text = "fun f(x; a)\n  each x as r, l\n    when l\n      zero\n        set a = a + 0\n      one\n        set a = a + 1\n" \
               "  give a"
        self.gives(text, ("0011",), ("1",), ("11100",), 1 + 4 * (1 + 2 + 3) + 1)
        self.gives(text, ("",), ("1",), ("1",), 2)
        self.gives("fun f(x;)\n  each x as r, l\n  give x", ("0101",), (), ("0101",), 1 + 4 + 1)

    def test_rest_and_letter(self):
        text = "fun join(x; a)\n  each x as r, l\n    when l\n      zero\n        set a = a + 0\n      one\n        set a = a + 1\n" \
               "  give a\nfun f(x;) own s\n  each x as r, l\n    set s = join(r; s + 1)\n    set s = join(l; s + 0)\n  give s"
        self.gives(text, ("011",), (), ("1" + "10" + "01" + "1" + "0" + "01" + "1" + "00",), slow_run(
            read(text), "f", ("011",), ())[1])
        self.gives("fun f(x;) own s, t\n  each x as r, l\n    set s = r\n    set t = l\n  give s, t",
                   ("011",), (), ("", "0"), 1 + 3 * (1 + 2 + 2) + 2)

    def test_rounds_within_rounds(self):
        self.gives("fun f(x;) own s\n  each x as r, l\n    each r as q, m\n      set s = s + 1\n  give s",
                   ("0000",), (), ("111111",), 1 + 4 * (1 + 1) + 6 * (1 + 3) + 1)
        self.gives("fun f(x, y;) own s\n  each x as r, l\n    each y as q, m\n      set s = s + 1\n    set s = s + 0\n"
                   "  give s", ("00", "11"), (), ("110110",), 1 + 2 * (1 + 1 + 2 * 4 + 3) + 1)
        self.gives("fun f(x, y;) own s\n  each y as r, l\n    each x as q, m\n      set s = s + 1\n  give s",
                   ("", "11"), (), ("",), 1 + 2 * 2 + 1)

    def test_a_let_within_rounds(self):
        self.gives("fun f(x;) own s\n  each x as r, l\n    let y = r + 1\n    each y as q, m\n      set s = s + 1\n  give s",
                   ("000",), (), ("111111",), 1 + 3 * (1 + 3 + 1) + 6 * 4 + 1)

    def test_set_with_several_names_from_one_call(self):
        self.gives("fun two(; a, b)\n  give b, a, a + 1\nfun f(; a, b) own s\n  set a, s, b = two(; a, b)\n  give a, b, s",
                   (), ("0", "11"), ("11", "01", "0"), 1 + (1 + 2 + 4) + 3)
        self.gives(LIBRARY, ("000",), ("1",), ("100", "0"), 1 + 3 * (1 + 1 + (1 + 3 + 2)) + 2)

    def test_calls_within_arguments(self):
        marks = LIBRARY.split("fun swap")[0]
        self.gives(marks + "fun f(x; a)\n  give marks(marks(x; \"\"); marks(x; a + 0)) + 0", ("01",), ("",),
                   ("011110",), 1 + 1 + (1 + 2 + 10) + (1 + 1 + 2 + 10) + 10)
        self.gives(marks + "fun g(x;)\n  give marks(x; x)\nfun f(x;)\n  let y = g(g(x;);)\n  each y as r, l\n  give y",
                   ("0",), (), ("0111",), 1 + 1 + (1 + 1 + 9) + (1 + 2 + 10) + 1 + 4 + 1)

    def test_owns_are_empty_in_each_call(self):
        self.gives("fun g(; a) own s\n  set s = s + 1\n  give s, a\nfun f(; a, b)\n  set a, b = g(; a)\n  set a, b = g(; b)\n"
                   "  give a, b", (), ("0", ""), ("1", "0"), 2 * (1 + 1 + 1 + 5) + 2)

    def test_many_programs(self):
        runs = 0
        for seed in range(150):
            rng = random.Random(seed)
            program = ProgramMaker(seed).program()
            for function in program:
                leads = tuple(self.word(rng) for _ in function[2])
                softs = tuple(self.word(rng) for _ in function[3])
                found = run(program, function[1], leads, softs)
                if found[1] < 20000:
                    runs += 1
                    slow = slow_run(program, function[1], leads, softs)
                    self.assertEqual(found, slow[:2])
                    self.assertEqual(trace(program, function[1], leads, softs), slow[2])
        self.assertGreater(runs, 250)

    def word(self, rng):
        return "".join(rng.choice("01") for _ in range(rng.randrange(4)))

    def test_at_the_limits(self):
        text = "fun f0(x; a)\n  give a + 0\n"
        for k in range(1, 14):
            term = "f%d(x; a)" % (k - 1)
            for _ in range(8):
                term = "cut (" + term + " + 1)"
            text += "fun f%d(x; a)\n  give %s\n" % (k, term)
        program = read(text)
        self.assertEqual(run(program, "f13", ("",), ("1",)), (("10",), 2 + 13 * 19))
        long = read("fun f(x; a)\n" + "".join(
            "  each x as r%d, l%d\n    set a = a + 1\n" % (k, k) for k in range(40)) + "  give a")
        self.assertEqual(run(long, "f", ("0" * 40,), ("",)), (("1" * 1600,), 40 * (1 + 40 * 4) + 1))
        self.assertEqual(len(trace(long, "f", ("0" * 40,), ("",))), 40 * 41)
        nested, end = "fun f(x;) own s\n", "  give s"
        for k in range(9):
            nested += "  " * (k + 1) + "each %s as r%d, l%d\n" % ("x" if k < 3 else "l0", k, k)
        nested += "  " * 10 + "set s = s + 1\n" + end
        self.gives(nested, ("0101010101",), (), ("1" * 1000,),
                   (1 + 10) + 10 * (1 + 10) + 100 * (1 + 10) + 1000 * (6 * 2 + 3) + 1)

    def test_calls_nested_deep_in_arguments(self):
        text = "fun f0(; a)\n  give a + 1\n"
        for k in range(1, 14):
            text += "fun f%d(; a)\n  give %s a + 1 %s\n" % (k, ("f%d(; " % (k - 1)) * 2, ")" * 2)
        program = read(text.replace("a + 1 )", "a)"))
        outcomes, steps = run(program, "f10", (), ("",))
        self.assertEqual(outcomes, ("1" * 1024,))
        deep = read("fun f0(; a)\n  give a\n" + "".join(
            "fun f%d(; a)\n  give %sa%s\n" % (k, "f0(; " * 8 + "f%d(; " % (k - 1), ")" * 9) for k in range(1, 14)))
        self.assertEqual(run(deep, "f13", (), ("01",)), (("01",), 13 * (9 + 1 + 8) + 1))


class TraceTest(unittest.TestCase):
    def test_rounds_branches_and_calls(self):
        text = LIBRARY.split("fun swap")[0] + (
            "fun f(x; a) own s\n  let y = x\n  each y as r, l\n    when l\n      zero\n        set s = marks(l; s)\n      one\n"
            "        set a = cut a\n        set s = s + 0\n  when s\n    none\n      set a = s\n  give s, a")
        each, when = (1, 5, 1), (1, 5, 1, 4, 0)
        self.assertEqual(trace(read(text), "f", ("01",), ("11",)), (
            ((1, 5, 0), ("11", "")), (each, ("11", "")), (when, ("11", "")), (when + (4, 0), ("11", "")),
            (when + (4, 1), ("1", "")), (when, ("1", "0")), (when + (3, 0), ("1", "0")), ((1, 5, 2), ("1", "01"))))
        self.assertEqual(trace(read(text), "f", ("",), ("11",)), (
            ((1, 5, 0), ("11", "")), (each, ("11", "")), ((1, 5, 2), ("11", "")), ((1, 5, 2, 2, 0), ("11", ""))))

    def test_no_commands(self):
        self.assertEqual(trace(read("fun f(x;)\n  give x"), "f", ("0",), ()), ())
        self.assertEqual(trace(read(LIBRARY + "fun f(x;)\n  give marks(x; x)"), "f", ("01",), ()), ())

    def test_functions_without_softs(self):
        self.assertEqual(trace(read("fun f(x;)\n  each x as r, l\n    let y = l\n  give x"), "f", ("11",), ()),
                         (((0, 5, 0), ()), ((0, 5, 0, 4, 0), ()), ((0, 5, 0, 4, 0), ())))


class WrongArgumentsTest(unittest.TestCase):
    PROGRAM = read("fun f(x, y; a)\n  give a\nfun g(;)\n  give \"\"")

    def raises(self, error, thing, *arguments):
        for call in (run, trace):
            with self.assertRaises(error) as caught:
                call(*arguments)
            self.assertIs(caught.exception.thing, thing)

    def test_programs(self):
        for thing in ODD_VALUES + (read("fun f(x;)\n  give y"), list(self.PROGRAM)):
            if thing != ():
                self.raises(BadProgram, thing, thing, "f", ("", ""), ("",))
                self.raises(BadProgram, thing, thing, None, None, None)
        rng = random.Random(2)
        for seed in range(100):
            thing = bent(ProgramMaker(seed).program(), rng)
            if not is_program(thing):
                self.raises(BadProgram, thing, thing, thing, thing, thing)

    def test_names(self):
        for thing in ODD_VALUES + ("h", "F", "f ", ("f",), ["f"], {"f": 1}):
            self.raises(BadName, thing, self.PROGRAM, thing, ("", ""), ("",))
            self.raises(BadName, thing, self.PROGRAM, thing, None, None)
            self.raises(BadName, thing, (), thing, (), ())

    def test_inputs(self):
        for thing in ODD_VALUES + (("",), ("", "", ""), ["", ""], ("", "2"), ("", 0), ("0 ", ""), (None, ""), "01"):
            self.raises(BadInputs, thing, self.PROGRAM, "f", thing, ("",))
            self.raises(BadInputs, thing, self.PROGRAM, "f", thing, None)
            if thing not in (("",), ((),)):
                self.raises(BadInputs, thing, self.PROGRAM, "f", ("", "0"), thing)
            if thing != ():
                self.raises(BadInputs, thing, self.PROGRAM, "g", thing, ())
                self.raises(BadInputs, thing, self.PROGRAM, "g", (), thing)
