"""Bounds and tables [4.2 to 4.4], and that they bound [0.3]."""

import random
import unittest

from quicktongue.bounds import bounds, judge_table, table_holds
from quicktongue.errors import BadProgram, BadTable
from quicktongue.levels import is_program
from quicktongue.meaning import run
from quicktongue.polys import is_poly
from quicktongue.texts import read
from tests.slow import slow_pair
from tests.support import ODD_VALUES, ProgramMaker, bent

MARKS = "fun marks(x; a)\n  each x as r, l\n    set a = a + 1\n  give a\n"
X, ONE = (((1,), 1),), (((0,), 1),)


def one_variable(*coefficients):
    """The polynomial over one length with these coefficients for its powers."""
    return tuple(((at,), coefficient) for at, coefficient in enumerate(coefficients) if coefficient)


def value(poly, lengths):
    total = 0
    for exponents, coefficient in poly:
        for exponent, length in zip(exponents, lengths):
            coefficient *= length ** exponent
        total += coefficient
    return total


class BoundsTest(unittest.TestCase):
    def bounds_are(self, text, q, p):
        """The last function of the text has these polynomials, given by their coefficients if it has one lead."""
        program = read(text)
        found = bounds(program)
        if len(program[-1][2]) == 1:
            q, p = one_variable(*q), one_variable(*p)
        self.assertEqual(found[-1], (q, p))
        self.assertEqual(slow_pair(program, len(program) - 1, found), (q, p))

    def test_terms(self):
        for term, q, p in (
                ("x", (0, 1), (1,)), ("a", (), (1,)), ('""', (), (1,)), ('"011"', (3,), (1,)), ("x + 1", (1, 1), (2,)),
                ("a + 1 + 0", (2,), (3,)), ("cut x", (0, 1), (2,)), ("cut a", (), (2,)), ("cut (x + 1)", (1, 1), (3,)),
                ('cut "01"', (2,), (2,)), ("x, a", (0, 1), (2,)), ('x + 1, a + 1 + 1, "000"', (3, 1), (6,))):
            self.bounds_are("fun f(x; a)\n  give " + term, q, p)

    def test_calls(self):
        for term, q, p in (
                ("marks(x; a)", (0, 1), (1 + 2 + 2, 4)), ("marks(x; x)", (0, 2), (5, 4)),
                ("marks(x + 1; a + 1 + 1)", (1 + 2, 1), (1 + 2 + 3 + 2 + 4, 4)),
                ('marks("01"; a)', (2,), (1 + 2 + 2 + 8,)), ('marks(marks(x; ""); a)', (0, 1), (1 + 5 + 1 + 2, 4 + 4)),
                ("marks(x; marks(x; a))", (0, 2), (1 + 1 + 5 + 2, 4 + 4))):
            self.bounds_are(MARKS + "fun f(x; a)\n  give " + term, q, p)

    def test_calls_of_functions_with_other_numbers_of_arguments(self):
        self.bounds_are('fun g(;)\n  give "01"\nfun f(x;)\n  give g(;)', (2,), (2,))
        self.bounds_are('fun g(; a, b)\n  give b + 1\nfun f(x; a)\n  give g(; x, "000"), g(; "0", "00000") + 1',
                        (7, 1), (5 + 5 + 1,))
        square = "fun sq(x, y;) own s\n  each x as r, l\n    each y as q, m\n      set s = s + 1\n  give s\n"
        self.bounds_are(square, (((1, 1), 1),), (((0, 0), 2), ((1, 0), 2), ((1, 1), 4)))
        self.bounds_are(square + "fun f(x;)\n  give sq(x, x + 1;)", (0, 1, 1), (1 + 3 + 2, 2 + 4, 4))
        self.bounds_are(square + "fun f(;)\n  give sq(\"0\", \"\";)", (), (((), 1 + 2 + 2 + 2),))
        self.bounds_are("fun f(;)\n  give \"0\"", (((), 1),), (((), 1),))

    def test_several_gives_in_a_set(self):
        two = "fun two(x; a, b)\n  give a + 1, x\n"
        self.bounds_are(two + "fun f(x; a, b)\n  set b, a = two(x + 0; a, b + 1)\n  give a", (3, 1), (1 + 1 + 5 + 3 + 1,))

    def test_commands(self):
        for lines, q, p in (
                (["let y = x + 1"], (), (1 + 2 + 1,)), (["set a = a + 1"], (1,), (4,)), (["set a = x"], (0, 1), (3,)),
                (["set a = a + 1", "set a = a + 1"], (2,), (7,)), (["when a + 1"], (), (4,)),
                (["when a", "  zero", '    set a = "000"'], (3,), (2 + 2 + 1,)),
                (["when a", "  none", "    set a = x", "  zero", '    set a = "000" + 1', "  one", '    set a = "00000"'],
                 (5, 1), (2 + 3 + 1,)),
                (["each x as r, l"], (), (2, 1)), (["each x as r, l", "  set a = a + 1 + 1"], (0, 2), (2, 5)),
                (["each x as r, l", "  set a = r"], (0, 0, 1), (2, 3)), (["each x as r, l", "  set a = l"], (0, 1), (2, 3)),
                (["each x as r, l", "  each l as q, m", "    set a = m"], (0, 1), (2, 1 + 1 + 3)),
                (["each x as r, l", "  each r as q, m", "    set a = a + 1"], (0, 0, 1), (2, 2, 4)),
                (["let y = x + 1", "each y as r, l", "  set a = a + 1"], (1, 1), (3 + 1 + 4 + 1, 4)),
                (["let y = marks(x; x)", "let z = cut y", "set a = z"], (0, 2), (6 + 3 + 2 + 1, 4)),
                (["each x as r, l", "  let y = r + 1", "  each y as q, m", "    set a = a + 1"], (0, 1, 1),
                 (1 + 1, 1 + 3 + 1 + 4, 4))):
            self.bounds_are(MARKS + "\n".join(["fun f(x; a)"] + ["  " + line for line in lines] + ["  give a"]), q, p)

    def test_a_let_within_a_block_gives_its_gives_a_size(self):
        self.bounds_are("fun f(x;)\n  let y = x + 1\n  give y + 1, x", (2, 1), (3 + 3,))

    def test_the_greater_is_taken_coefficient_by_coefficient(self):
        self.bounds_are("fun f(x; a)\n  when a\n    zero\n      each x as r, l\n        set a = a + 1\n    one\n"
                        '      set a = "00000"\n  give a', (5, 1), (1 + 1 + 2 + 1, 4))
        self.bounds_are("fun f(x; a)\n  give x, \"000\"", (3, 1), (2,))

    def test_the_empty_program(self):
        self.assertEqual(bounds(()), ())
        self.assertEqual(judge_table((), ()), ("right",))

    def test_functions_with_many_leads(self):
        program = read("fun f(x, y, z, u, v;)\n  give u + 1")
        self.assertEqual(bounds(program), (((((0, 0, 0, 0, 0), 1), ((0, 0, 0, 1, 0), 1)), (((0, 0, 0, 0, 0), 2),)),))

    def test_many_programs(self):
        for seed in range(200):
            program = ProgramMaker(seed).program()
            table = bounds(program)
            self.assertEqual(table, tuple(slow_pair(program, at, table) for at in range(len(program))))
            for function, pair in zip(program, table):
                self.assertTrue(all(is_poly(len(function[2]), poly) for poly in pair))

    def test_no_program(self):
        for thing in ODD_VALUES + (read("fun f(x;)\n  give y"),):
            if thing != ():
                for call in (bounds, lambda program: judge_table(program, None),
                             lambda program: table_holds(program, None, ("right",))):
                    with self.assertRaises(BadProgram) as caught:
                        call(thing)
                    self.assertIs(caught.exception.thing, thing)
        rng = random.Random(4)
        for seed in range(100):
            thing = bent(ProgramMaker(seed).program(), rng)
            if not is_program(thing):
                with self.assertRaises(BadProgram):
                    bounds(thing)


class WhatTheyBoundTest(unittest.TestCase):
    def test_steps_and_lengths_of_runs(self):
        runs = 0
        for seed in range(250):
            rng = random.Random(seed)
            program = ProgramMaker(seed).program()
            table = bounds(program)
            wide = tuple(tuple(self.widened(poly, rng) for poly in pair) for pair in table)
            self.assertEqual(judge_table(program, table), ("right",))
            for at, function in enumerate(program):
                for _ in range(3):
                    leads = tuple(self.word(rng) for _ in function[2])
                    softs = tuple(self.word(rng) for _ in function[3])
                    lengths = [len(word) for word in leads]
                    if value(table[at][1], lengths) <= 20000:
                        runs += 1
                        self.bounded(run(program, function[1], leads, softs), table[at], lengths, softs)
                        if judge_table(program, wide) == ("right",):
                            self.bounded(run(program, function[1], leads, softs), wide[at], lengths, softs)
        self.assertGreater(runs, 900)

    def bounded(self, found, pair, lengths, softs):
        outcomes, steps = found
        self.assertLessEqual(steps, value(pair[1], lengths))
        longest = max([len(word) for word in softs], default=0)
        for word in outcomes:
            self.assertLessEqual(len(word), value(pair[0], lengths) + longest)

    def widened(self, poly, rng):
        return tuple((exponents, coefficient + rng.randrange(2)) for exponents, coefficient in poly)

    def word(self, rng):
        return "".join(rng.choice("01") for _ in range(rng.randrange(7)))

    def test_the_bound_is_reached(self):
        program = read(MARKS)
        (q, p), = bounds(program)
        for many in (0, 1, 7, 40):
            outcomes, steps = run(program, "marks", ("0" * many,), ("1" * 40,))
            self.assertEqual(steps, value(p, (many,)))
            self.assertEqual(len(outcomes[0]), value(q, (many,)) + 40)


class TablesTest(unittest.TestCase):
    PROGRAM = read(MARKS + "fun g(x, y; a)\n  set a = marks(x; a)\n  give a, y\n")
    RIGHT = bounds(PROGRAM)

    def holds(self, table, *certificates):
        """Just these certificates are those of the table."""
        judged = judge_table(self.PROGRAM, table)
        self.assertIn(judged, certificates)
        every = {("right",)}
        for at in range(3):
            for exponents in [(k,) for k in range(4)] + [(k, m) for k in range(3) for m in range(3)]:
                every |= {("short", at, exponents, j) for j in range(3)}
        for certificate in every | set(certificates):
            self.assertIs(table_holds(self.PROGRAM, table, certificate), certificate in certificates, certificate)

    def with_pair(self, at, q=None, p=None):
        pair = (self.RIGHT[at][0] if q is None else q, self.RIGHT[at][1] if p is None else p)
        return self.RIGHT[:at] + (pair,) + self.RIGHT[at + 1:]

    def test_right_tables(self):
        self.assertEqual(self.RIGHT, ((X, one_variable(2, 4)),
                                      ((((0, 1), 1), ((1, 0), 1)), (((0, 0), 8), ((1, 0), 4)))))
        self.holds(self.RIGHT, ("right",))
        self.holds(self.with_pair(1, q=(((0, 1), 9), ((1, 0), 1), ((5, 5), 1))), ("right",))
        self.holds(self.with_pair(1, p=(((0, 0), 9), ((0, 1), 1), ((1, 0), 4))), ("right",))

    def test_tables_that_are_short(self):
        self.holds(self.with_pair(1, q=(((0, 1), 1),)), ("short", 1, (1, 0), 0))
        self.holds(self.with_pair(1, q=()), ("short", 1, (1, 0), 0), ("short", 1, (0, 1), 0))
        self.holds(self.with_pair(1, p=(((0, 0), 7), ((1, 0), 4))), ("short", 1, (0, 0), 1))
        self.holds(self.with_pair(1, p=(((0, 0), 8), ((1, 0), 3))), ("short", 1, (1, 0), 1))
        self.holds(self.with_pair(1, p=(((1, 1), 99),)), ("short", 1, (0, 0), 1), ("short", 1, (1, 0), 1))

    def test_the_rules_use_the_pairs_of_the_table(self):
        self.holds(self.with_pair(0, q=one_variable(1, 1)), ("short", 1, (0, 0), 0))
        self.holds(self.with_pair(0, p=one_variable(3, 4)), ("short", 1, (0, 0), 1))
        self.holds(self.with_pair(0, p=one_variable(2, 4, 1)), ("short", 1, (2, 0), 1))
        self.holds(self.with_pair(0, p=one_variable(2, 3)), ("short", 0, (1,), 1))
        self.holds(self.with_pair(0, q=()), ("short", 0, (1,), 0))
        self.holds(self.with_pair(0, q=(), p=()), ("short", 0, (1,), 0), ("short", 0, (0,), 1), ("short", 0, (1,), 1))

    def test_certificates_that_are_bent(self):
        table = self.with_pair(1, p=())
        right = ("short", 1, (0, 0), 1)
        self.assertIs(table_holds(self.PROGRAM, table, right), True)
        for thing in (("short", True, (0, 0), 1), ("short", 1, (False, 0), 1), ("short", 1, (0, 0), True), list(right),
                      ("short", 1, [0, 0], 1), right + (1,), right[:-1], ("short", 1, (0,), 1), ("short", 1, 0, 1),
                      ("short", -1, (0, 0), 1), ("short", 1, (0, 0), 0), ("short", 1, (0, 0), -1), (right,), ("right",),
                      ("short", "1", (0, 0), 1), ("shorter", 1, (0, 0), 1), ("short", 1, (0, 0), 1, 1)):
            self.assertIs(table_holds(self.PROGRAM, table, thing), False, thing)
        self.assertIs(table_holds(self.PROGRAM, self.with_pair(0, p=()), ("short", False, (0,), 1)), False)
        for thing in ODD_VALUES + (["right"], ("right", ()), "right"):
            self.assertIs(table_holds(self.PROGRAM, self.RIGHT, thing), thing == ("right",) and isinstance(thing, tuple))
            self.assertIs(table_holds(self.PROGRAM, table, thing), False)

    def test_what_is_no_table(self):
        pair, other = self.RIGHT
        for thing in ODD_VALUES + (
                (pair,), (pair, other, other), [pair, other], (other, pair), (pair, pair), (list(pair), other),
                (pair + ((),), other), (pair[:1], other), (((((1,), 0),), ()), other), (((((1,), True),), ()), other),
                ((((True,), 1), ()), other), (((((0,), 1), ((0,), 1)), ()), other), ((X, one_variable(2, 4)[::-1]), other),
                ((X, None), other), ((X, [((0,), 1)]), other), (pair, (((((0, 0, 0), 1),)), ())), (((), ()),) * 3):
            for call in (judge_table, lambda program, table: table_holds(program, table, ("right",)),
                         lambda program, table: table_holds(program, table, None)):
                with self.assertRaises(BadTable) as caught:
                    call(self.PROGRAM, thing)
                self.assertIs(caught.exception.thing, thing)
        self.holds((((), ()), ((), ())), ("short", 0, (1,), 0), ("short", 0, (0,), 1), ("short", 0, (1,), 1),
                   ("short", 1, (0, 1), 0), ("short", 1, (0, 0), 1))

    def test_bent_tables_of_many_programs(self):
        for seed in range(150):
            rng = random.Random(seed)
            program = ProgramMaker(seed).program()
            table = bent(bounds(program), rng)
            if self.is_table(program, table):
                self.judged_right(program, table)
            else:
                with self.assertRaises(BadTable):
                    judge_table(program, table)

    def is_table(self, program, table):
        return isinstance(table, tuple) and len(table) == len(program) and all(
            isinstance(pair, tuple) and len(pair) == 2 and all(is_poly(len(function[2]), poly) for poly in pair)
            for function, pair in zip(program, table))

    def judged_right(self, program, table):
        shorts = []
        for at in range(len(program)):
            for j, poly in enumerate(slow_pair(program, at, table)):
                had = dict(table[at][j])
                shorts.extend(("short", at, exponents, j) for exponents, c in poly if c > had.get(exponents, 0))
        self.assertIn(judge_table(program, table), shorts or [("right",)])
        for certificate in shorts or [("right",)]:
            self.assertIs(table_holds(program, table, certificate), True)
        self.assertIs(table_holds(program, table, ("right",)), not shorts)

    def test_tables_short_by_one(self):
        for seed in range(60):
            program = ProgramMaker(seed).program()
            table = bounds(program)
            for at in range(len(program)):
                for j in range(2):
                    for k, (exponents, coefficient) in enumerate(table[at][j]):
                        less = ((exponents, coefficient - 1),) if coefficient > 1 else ()
                        poly = table[at][j][:k] + less + table[at][j][k + 1:]
                        pair = table[at][:j] + (poly,) + table[at][j + 1:]
                        short = table[:at] + (pair,) + table[at + 1:]
                        self.assertIs(table_holds(program, short, ("short", at, exponents, j)), True)
                        self.assertEqual(judge_table(program, short)[0], "short")

    def test_at_the_limits(self):
        text = "fun f0(x;) own s\n  each x as r, l\n    set s = s + 1\n  give s\n"
        for k in range(1, 12):
            text += ("fun f%d(x;) own s\n  each x as r, l\n    set s = joined(f%d(x;); s)\n  give s\n" % (k, k - 1)).replace(
                "joined(", "marks(")
        program = read(MARKS + text)
        table = bounds(program)
        self.assertEqual(table[-1][0], one_variable(*[0] * 12, 1))
        self.assertEqual(table, tuple(slow_pair(program, at, table) for at in range(len(program))))
        self.assertEqual(judge_table(program, table), ("right",))
        wide = tuple((((((0,), 10 ** 38),) + q), p) for q, p in table)
        self.assertEqual(judge_table(program, wide)[:2], ("short", 2))
