"""Plain compiling [9.1] and that it is right [9.2]."""

import random
import unittest

from quicktongue import machine
from quicktongue.bounds import bounds
from quicktongue.code import first_fault, is_taken
from quicktongue.codebounds import code_bounds
from quicktongue.compiler import homes, plain_unit
from quicktongue.errors import BadProgram
from quicktongue.meaning import run
from quicktongue.polys import poly_value
from quicktongue.simplify import simplified
from quicktongue.texts import read
from tests.slowcode import slow_plain_code
from tests.support import ODD_VALUES, ProgramMaker, at_path
from tests.unitmaker import rows_of, word

G = "fun g(x; a)\n  give a\n"
TWO = "fun two(x; a, b)\n  give b, a\n"


class PlainUnitTest(unittest.TestCase):
    def rows(self, text, wide, told):
        """The last function of the text has these rows, and so many registers of both kinds.

        Each row is told with its home, which is what of its path follows the function's position.
        """
        program = read(text)
        last = len(program) - 1
        unit = plain_unit(program)
        code = unit[1][last]
        rows = rows_of("; ".join(part.split("@")[0] for part in told.split(";")))
        paths = tuple((last,) + tuple(int(at) for at in part.split("@")[1].split()) for part in told.split(";"))
        self.assertEqual(code, (len(program[last][2]), len(program[last][3])) + wide + (rows,))
        self.assertEqual(homes(program)[last], paths)
        self.assertEqual(slow_plain_code(program, last), (code, paths))
        self.assertIs(is_taken(unit), True)

    def test_the_program_without_functions(self):
        self.assertEqual(plain_unit(()), ((), (), ()))
        self.assertEqual(homes(()), ())

    def test_names(self):
        self.rows("fun f(x, y; a, b) own s\n  give y, a, s, b, x", (2, 3), "give (l1 s0 s2 s1 l0) @ 6")

    def test_words_puts_and_cuts_at_the_soft_level(self):
        self.rows('fun f(x; a)\n  give "", "01"', (1, 3), "word s1 - @ 6; word s2 01 @ 6; give (s1 s2) @ 6")
        self.rows("fun f(x; a)\n  give a + 1, cut x", (1, 3), "put s1 s0 1 @ 6; cut s2 l0 @ 6; give (s1 s2) @ 6")
        self.rows('fun f(x;)\n  give cut ("1" + 0)', (1, 3), "word s0 1 @ 6; put s1 s0 0 @ 6; cut s2 s1 @ 6; give (s2) @ 6")

    def test_words_puts_and_cuts_at_the_leading_level(self):
        self.rows('fun f(x; a)\n  let y = cut ("1" + 0)\n  let z = x + 1\n  give y', (7, 1),
                  "word l1 1 @ 5 0; put l2 l1 0 @ 5 0; cut l3 l2 @ 5 0; move l4 l3 @ 5 0; put l5 l0 1 @ 5 1;"
                  "move l6 l5 @ 5 1; give (l4) @ 6")

    def test_let_of_a_name_and_its_register_behind_those_of_its_term(self):
        self.rows("fun f(x;)\n  let y = x\n  let z = y\n  give z, y", (3, 0),
                  "move l1 l0 @ 5 0; move l2 l1 @ 5 1; give (l2 l1) @ 6")

    def test_set_with_one_name(self):
        self.rows('fun f(x; a) own s\n  set s = x\n  set a = s\n  set a = a + 1\n  set s = "0"\n  give a', (1, 4),
                  "move s1 l0 @ 5 0; move s0 s1 @ 5 1; put s2 s0 1 @ 5 2; move s0 s2 @ 5 2; word s3 0 @ 5 3; move s1 s3 @ 5 3;"
                  "give (s0) @ 6")

    def test_calls_at_the_soft_level(self):
        self.rows(G + 'fun f(x; a)\n  give g(cut x; a + 0) + 1', (2, 4),
                  "cut l1 l0 @ 6; put s1 s0 0 @ 6; call 0 (l1) (s1) (s2) @ 6; put s3 s2 1 @ 6; give (s3) @ 6")
        self.rows(G + 'fun f(x; a)\n  set a = g("1"; x)\n  give a', (2, 2),
                  "word l1 1 @ 5 0; call 0 (l1) (l0) (s1) @ 5 0; move s0 s1 @ 5 0; give (s0) @ 6")

    def test_calls_at_the_leading_level(self):
        self.rows(G + 'fun f(x; a)\n  let y = g(x; x + 1)\n  give y', (4, 1),
                  "put l1 l0 1 @ 5 0; call 0 (l0) (l1) (l2) @ 5 0; move l3 l2 @ 5 0; give (l3) @ 6")

    def test_calls_within_calls(self):
        self.rows(G + 'fun f(x; a)\n  give g(g(x; "0"); g("1"; a))', (4, 3),
                  "word l1 0 @ 6; call 0 (l0) (l1) (l2) @ 6; word l3 1 @ 6; call 0 (l3) (s0) (s1) @ 6; call 0 (l2) (s1) (s2) @ 6;"
                  "give (s2) @ 6")
        self.rows(G + "fun h(x, y; a, b)\n  give b\nfun f(x;)\n  let y = h(x, g(x; x); g(x; x), x)\n  give y", (5, 0),
                  "call 0 (l0) (l0) (l1) @ 5 0; call 0 (l0) (l0) (l2) @ 5 0; call 1 (l0 l1) (l2 l0) (l3) @ 5 0; move l4 l3 @ 5 0;"
                  "give (l4) @ 6")
        self.rows("fun g(;)\n  give \"\"\nfun f(;)\n  give g(;)", (0, 1), "call 0 () () (s0) @ 6; give (s0) @ 6")

    def test_set_with_several_names(self):
        self.rows(TWO + "fun f(x; a, b) own s\n  set s, a = two(x + 1; b, s + 0)\n  give s", (2, 4),
                  "put l1 l0 1 @ 5 0; put s3 s2 0 @ 5 0; call 0 (l1) (s1 s3) (s2 s0) @ 5 0; give (s2) @ 6")

    def test_when(self):
        self.rows('fun f(x; a)\n  when x\n    none\n      set a = x\n    zero\n      set a = ""\n      set a = x\n    one\n'
                  '      let y = x\n  give a', (2, 2),
                  "when l0 @ 5 0; move s0 l0 @ 5 0 2 0; zero @ 5 0; word s1 - @ 5 0 3 0; move s0 s1 @ 5 0 3 0; move s0 l0 @ 5 0 3 1;"
                  "one @ 5 0; move l1 l0 @ 5 0 4 0; end @ 5 0; give (s0) @ 6")
        self.rows("fun f(; a)\n  when cut a\n  give a", (0, 2), "cut s1 s0 @ 5 0; when s1 @ 5 0; zero @ 5 0; one @ 5 0; end @ 5 0; give (s0) @ 6")
        self.rows(G + 'fun f(x;)\n  when g(x; "")\n    zero\n      when x\n  give x', (1, 2),
                  "word s0 - @ 5 0; call 0 (l0) (s0) (s1) @ 5 0; when s1 @ 5 0; zero @ 5 0; when l0 @ 5 0 3 0; zero @ 5 0 3 0;"
                  "one @ 5 0 3 0; end @ 5 0 3 0; one @ 5 0; end @ 5 0; give (l0) @ 6")

    def test_each(self):
        self.rows("fun f(x; a)\n  each x as r, l\n  give a", (3, 1), "each l0 l1 l2 @ 5 0; end @ 5 0; give (s0) @ 6")
        self.rows("fun f(x; a)\n  each x as r, l\n    let y = l\n    each r as q, m\n      set a = y\n  give a", (6, 1),
                  "each l0 l1 l2 @ 5 0; move l3 l2 @ 5 0 4 0; each l1 l4 l5 @ 5 0 4 1; move s0 l3 @ 5 0 4 1 4 0; end @ 5 0 4 1;"
                  "end @ 5 0; give (s0) @ 6")

    def test_registers_go_on_behind_blocks(self):
        self.rows("fun f(x; a)\n  when a\n    one\n      set a = cut a\n      let z = cut x\n  let y = x + 0\n  give a + 1, y", (5, 3),
                  "when s0 @ 5 0; zero @ 5 0; one @ 5 0; cut s1 s0 @ 5 0 4 0; move s0 s1 @ 5 0 4 0; cut l1 l0 @ 5 0 4 1;"
                  "move l2 l1 @ 5 0 4 1; end @ 5 0; put l3 l0 0 @ 5 1; move l4 l3 @ 5 1; put s2 s0 1 @ 6; give (s2 l4) @ 6")

    def test_what_the_unit_needs_and_shows(self):
        unit = plain_unit(read(G + TWO + "fun name(;)\n  give \"\""))
        self.assertEqual((unit[0], unit[2]), ((), (("g", 0), ("two", 1), ("name", 2))))
        self.assertEqual(len(unit[1]), 3)

    def test_many_programs(self):
        for seed in range(250):
            program = ProgramMaker(seed).program()
            unit, paths = plain_unit(program), homes(program)
            self.assertEqual(len(unit[1]), len(program))
            for i, function in enumerate(program):
                self.assertEqual(slow_plain_code(program, i), (unit[1][i], paths[i]))
                self.assertEqual(len(paths[i]), len(unit[1][i][4]))
                for path in paths[i]:
                    thing = at_path(program, path)
                    self.assertTrue(thing is function[6] or thing[0] in ("let", "set", "when", "each"))

    def test_bad_programs(self):
        for thing in ODD_VALUES + (read("fun f(x;)\n  give y"), [()]):
            if thing != ():
                for call in (plain_unit, homes):
                    with self.assertRaises(BadProgram) as caught:
                        call(thing)
                    self.assertIs(caught.exception.thing, thing)


class RightTest(unittest.TestCase):
    def test_outcomes_and_steps(self):
        runs = 0
        for seed in range(200):
            rng = random.Random(seed)
            program = ProgramMaker(seed).program()
            table = bounds(program)
            units = [(plain_unit(one), one) for one in (program, simplified(program))]
            for unit, _ in units:
                self.assertIsNone(first_fault(unit))
            for f, function in enumerate(program):
                leads = tuple(word(rng, 4) for _ in function[2])
                softs = tuple(word(rng, 4) for _ in function[3])
                if poly_value(len(leads), table[f][1], tuple(len(lead) for lead in leads)) <= 2000:
                    runs += 1
                    for unit, one in units:
                        self.same(unit, one, f, leads, softs)
        self.assertGreater(runs, 350)

    def same(self, unit, program, f, leads, softs):
        outcomes, steps = run(program, program[f][1], leads, softs)
        found = machine.run(unit, f, leads, softs)
        self.assertEqual(found[0], outcomes)
        self.assertLessEqual(found[1], 2 * steps)
        value = poly_value(len(leads), code_bounds(unit)[f][1], tuple(len(lead) for lead in leads))
        self.assertLessEqual(found[1], value)

    def test_at_the_limits(self):
        text = "fun f0(x; a)\n" + "".join("  set a = a + 1\n" for _ in range(25)) + "  give a\n"
        for k in range(1, 12):
            text += "fun f%d(x; a)\n  each x as r, l\n" % k + "".join("    set a = f0(l; a)\n" for _ in range(25)) + "  give a\n"
        program = read(text)
        unit = plain_unit(program)
        self.assertIs(is_taken(unit), True)
        self.assertEqual(unit[1][11][2:4], (3, 26))
        self.same(unit, program, 11, ("0",), ("",))
        deep = "fun f(x; a)\n"
        for k in range(5):
            deep += "  " * (k + 1) + "each x as r%d, l%d\n" % (k, k)
        deep += "  " * 6 + "set a = a + 1\n" + "  give a"
        self.same(plain_unit(read(deep)), read(deep), 0, ("011",), ("",))
