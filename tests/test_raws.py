"""Raw programs and what is split off them [2.4]."""

import random
import unittest

from quicktongue.errors import BadRaw
from quicktongue.levels import is_program, is_raw, judge_split, split_holds
from quicktongue.texts import read
from tests.slow import slow_splits
from tests.support import ODD_VALUES, ProgramMaker, at_path, bent, raw_of, replaced, sub_paths

A, B, X = ("name", "a"), ("name", "b"), ("name", "x")


def raw(params, block, gives, owns=(), f="f"):
    return ("raw", f, params, owns, block, gives)


def each(x, *block):
    return ("each", x, "r", "l", block)


MARKS = raw(("a", "x"), (each("x", ("set", ("a",), ("put", A, "1"))),), (A,), f="marks")


class IsRawTest(unittest.TestCase):
    def test_right_ones(self):
        term = ("put", ("cut", ("ask", "f", (X, ("word", ""), ("ask", "g", ())))), "1")
        block = (("let", "y", term), ("set", ("y", "a"), term), ("when", term, (), (each("x"),), ()), each("x"))
        for thing in ((), (MARKS,), (MARKS, MARKS), (raw((), (), (X,)),), (raw(("x",), block, (term, term), ("s",)),)):
            self.assertIs(is_raw(thing), True, thing)

    def test_other_things(self):
        for function in (
                raw((), (), ()), raw((), (), X), raw((), X, (X,)), raw(("x", "own"), (), (X,)), raw((), (), (X,), (X,)),
                raw((), (), (("call", "f", (), ()),)), raw((), (("let", "y", ("call", "f", (), ())),), (X,)),
                raw((), (), (("ask", "f", (), ()),)), raw((), (), (("ask", "f"),)), raw((), (), (("ask", "f", X),)),
                raw((), (), (("ask", "one", ()),)), raw((), (), (("ask", ("f",), ()),)), raw((), (), (X,), f="fun"),
                ("raw", "f", (), (), (), (), (X,)), ("raw", "f", (), (), (X,)), ("fun", "f", (), (), (), (X,)),
                ("fun", "f", (), (), (), (), (X,)), list(MARKS), ("raw",) + MARKS, raw(["x"], (), (X,)),
                raw((), [], (X,)), raw((), (), [X]), raw((), (("ask", "f", ()),), (X,)), None, ()):
            self.assertIs(is_raw((function,)), False, function)
            self.assertIs(is_raw((MARKS, function)), False)
        self.assertIs(is_raw([MARKS]), False)
        self.assertIs(is_raw(MARKS), False)

    def test_any_values(self):
        for thing in ODD_VALUES:
            self.assertIs(is_raw(thing), thing == ())
            if thing != ():
                for call in (judge_split, lambda raw: split_holds(raw, ("none",))):
                    with self.assertRaises(BadRaw) as caught:
                        call(thing)
                    self.assertIs(caught.exception.thing, thing)


class SplitTest(unittest.TestCase):
    def split(self, raws, text):
        """The program of the text is split off with the least leads."""
        program = read(text)
        self.assertIs(is_program(program), True)
        self.assertEqual(judge_split(raws), ("split", program))
        self.assertIs(split_holds(raws, ("split", program)), True)
        for other in (("none",), ["split", program], ("split", list(program)), ("split", program, program), ("split",),
                      program, ("fit",), ("split", program + program[:1], None), None, ("none", program)):
            self.assertIs(split_holds(raws, other), False, other)

    def none(self, *raws):
        self.assertEqual(judge_split(raws), ("none",))
        self.assertIs(split_holds(raws, ("none",)), True)
        for other in (["none"], ("none", ()), (), "none", ("split", ()), ("none", "none"), (("none",),)):
            self.assertIs(split_holds(raws, other), False, other)
        for program in slow_splits(raws):
            self.assertIs(is_program(program), False)
            self.assertIs(split_holds(raws, ("split", program)), False)

    def test_exactly_one_marking(self):
        self.split((MARKS,), "fun marks(x; a)\n  each x as r, l\n    set a = a + 1\n  give a")

    def test_several_markings_of_which_the_least_leads(self):
        raws = (raw(("x", "y", "z"), (("let", "u", ("name", "y")),), (X,)),)
        fitting = [program for program in slow_splits(raws) if is_program(program)]
        self.assertEqual(len(fitting), 4)
        self.split(raws, "fun f(y; x, z)\n  let u = y\n  give x")
        for program in fitting:
            self.assertIs(split_holds(raws, ("split", program)), program[0][2] == ("y",))

    def test_params_in_any_order(self):
        block = (each("y", ("set", ("b",), X)), ("let", "u", X))
        self.split((raw(("a", "y", "b", "x"), block, (A,)),),
                   "fun f(y, x; a, b)\n  each y as r, l\n    set b = x\n  let u = x\n  give a")
        self.split((raw(("x", "b", "y", "a"), block, (A,)),),
                   "fun f(x, y; b, a)\n  each y as r, l\n    set b = x\n  let u = x\n  give a")

    def test_names_that_lead_or_not(self):
        self.split((raw(("x", "a"), (("when", A, (each("x"),), (), ()),), (A,)),),
                   "fun f(x; a)\n  when a\n    none\n      each x as r, l\n  give a")
        self.split((raw(("x",), (("set", ("s",), X),), (X, ("name", "s")), ("s",)),),
                   "fun f(; x) own s\n  set s = x\n  give x, s")
        self.split((raw((), (), (("word", ""),)),), 'fun f(;)\n  give ""')

    def test_calls_through_several_functions(self):
        first = MARKS
        second = raw(("x", "a"), (), (("ask", "marks", (A, ("cut", X))),), f="g")
        third = raw(("b", "a", "x"), (("set", ("b",), ("ask", "g", (A, X))),), (B,), f="h")
        fourth = raw(("x", "a", "b"), (("let", "y", ("ask", "h", (A, B, A))),), (X,))
        self.split((first, second, third, fourth),
                   "fun marks(x; a)\n  each x as r, l\n    set a = a + 1\n  give a\n"
                   "fun g(x; a)\n  give marks(cut x; a)\n"
                   "fun h(a; b, x)\n  set b = g(a; x)\n  give b\n"
                   "fun f(a, b; x)\n  let y = h(b; a, a)\n  give x")

    def test_a_leading_argument_makes_all_names_in_it_lead(self):
        inner = ("ask", "marks", (A, B))
        self.split((MARKS, raw(("x", "a", "b"), (), (("ask", "marks", (X, ("cut", inner))),))),
                   "fun marks(x; a)\n  each x as r, l\n    set a = a + 1\n  give a\n"
                   "fun f(a, b; x)\n  give marks(cut marks(b; a); x)")

    def test_a_function_with_the_name_of_a_param(self):
        self.split((raw(("x",), (), (X,), f="a"), raw(("a", "x"), (("let", "y", ("ask", "a", (X,))),), (A,))),
                   "fun a(; x)\n  give x\nfun f(x; a)\n  let y = a(; x)\n  give a")

    def test_none(self):
        self.none(raw(("a",), (("set", ("a",), ("word", "1")), each("a")), (A,)))
        self.none(raw(("x",), (each("s"),), (X,), ("s",)))
        self.none(raw(("x",), (("let", "y", ("name", "s")),), (X,), ("s",)))
        self.none(raw(("x",), (each("x", ("set", ("r",), X)),), (X,)))
        self.none(raw(("x", "x"), (), (X,)))
        self.none(raw(("x",), (("let", "x", ("word", "")),), (X,)))
        self.none(raw(("a",), (), (X,)))
        self.none(raw(("x",), (), (X,)), raw(("x",), (), (X,)))
        self.none(MARKS, raw(("a",), (("set", ("a",), ("ask", "marks", (("word", ""), A))),), (A,)))

    def test_calls_that_cannot_be_split(self):
        for arguments in ((), (A,), (A, A, A), (X, A, A, A)):
            self.none(MARKS, raw(("a", "x"), (), (("ask", "marks", arguments),)))
        self.none(raw(("x",), (), (("ask", "f", (X,)),)))
        self.none(raw(("x",), (), (("ask", "marks", (X, X)),)), MARKS)
        self.none(raw(("x",), (), (("ask", "g", ()),)))
        two = raw(("a",), (), (A, A), f="two")
        self.none(two, raw(("a",), (), (("ask", "two", (A,)),)))
        self.none(two, raw(("a", "b"), (("set", ("a", "b"), A),), (A,)))
        self.split((two, raw(("a", "b"), (("set", ("a", "b"), ("ask", "two", (A,))),), (B,))),
                   "fun two(; a)\n  give a, a\nfun f(; a, b)\n  set a, b = two(; a)\n  give b")

    def test_the_empty_program(self):
        self.split((), "")

    def test_many_raw_programs(self):
        for seed in range(300):
            rng = random.Random(seed)
            raws = raw_of(ProgramMaker(seed).program(), rng)
            self.assertIs(is_raw(raws), True)
            if seed % 2:
                raws = self.renamed(raws, rng)
            if sum(len(function[2]) for function in raws) <= 7:
                self.judged_right(raws)

    def renamed(self, raws, rng):
        """The raw program with one name in another's place."""
        paths = [path for path in sub_paths(raws) if at_path(raws, path)[:1] == "n" and path[-1:] != (0,)]
        if not paths:
            return raws
        changed = replaced(raws, rng.choice(paths), at_path(raws, rng.choice(paths)))
        return changed if is_raw(changed) else raws

    def judged_right(self, raws):
        fitting = [program for program in slow_splits(raws) if is_program(program)]
        judged = judge_split(raws)
        if not fitting:
            self.assertEqual(judged, ("none",))
            return
        self.assertIn(judged[1], fitting)
        for program in fitting:
            for one, other in zip(judged[1], program):
                self.assertLessEqual(set(one[2]), set(other[2]))
            self.assertIs(split_holds(raws, ("split", program)), program == judged[1])
        self.assertIs(split_holds(raws, ("none",)), False)

    def test_bent_certificates(self):
        for seed in range(100):
            rng = random.Random(seed)
            raws = raw_of(ProgramMaker(seed).program(), rng)
            judged = judge_split(raws)
            for _ in range(5):
                changed = bent(judged, rng)
                self.assertIs(split_holds(raws, changed), changed == judged)

    def test_at_the_limits(self):
        params = ("a", "b", "c", "x")
        functions = [raw(params, (each("x"),), (A,), f="f0")]
        for k in range(1, 30):
            names = params[k % 4:] + params[:k % 4]
            block = (("set", ("s",), ("ask", "f" + str(k - 1), tuple(("name", name) for name in names))),)
            functions.append(raw(params, block, (A,), ("s",), "f" + str(k)))
        kind, program = judge_split(tuple(functions))
        self.assertEqual(kind, "split")
        self.assertIs(is_program(program), True)
        self.assertEqual({len(function[2]) for function in program}, {1})
