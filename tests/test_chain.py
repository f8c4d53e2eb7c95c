"""The whole chain, from a program to the run of its bytes [12.3]."""

import random
import unittest

from quicktongue import machine
from quicktongue.bounds import bounds
from quicktongue.bytework import bytes_of, unit_of
from quicktongue.chain import chain_bounds, chained, made_bytes
from quicktongue.code import is_taken
from quicktongue.compiler import plain_unit
from quicktongue.errors import BadInputs, BadName, BadProgram
from quicktongue.loader import load, load_bounds
from quicktongue.meaning import run
from quicktongue.polys import poly_value
from quicktongue.registers import judge_sharing, shared
from quicktongue.shelf import shelf
from quicktongue.simplify import simplified
from quicktongue.texts import read, written
from tests.support import ODD_VALUES, ProgramMaker
from tests.unitmaker import word

MARKS = read("fun marks(x; a)\n  each x as r, l\n    set a = a + 1\n  give a")
TWO = read("fun two(x; a)\n  give a, x\nfun f(x, y; a) own s\n  set a, s = two(x; a)\n  let z = y\n  each z as r, l\n    set s = s + 0\n  give s, a")


def sharing_between(plain, unit):
    """The numbers of the registers of a unit that stand for those of a plain one, found row by row; None if there are none."""
    sharing = []
    for code, other in zip(plain[1], unit[1]):
        numbers = {"l": list(range(code[2])), "s": list(range(code[3]))}
        for row, changed in zip(code[4], other[4]):
            for reg, stands in zip(regs_in(row), regs_in(changed)):
                numbers[reg[0]][reg[1]] = stands[1]
        sharing.append((tuple(numbers["l"]), tuple(numbers["s"])))
    return tuple(sharing)


def regs_in(row):
    found = []
    for part in row[1:]:
        if type(part) is tuple:
            found += [part] if len(part) == 2 and part[0] in ("l", "s") else list(part)
    return found


class ChainTest(unittest.TestCase):
    def made(self, program):
        """The made bytes are those of a unit that the plain one is shared to, and they are loaded."""
        code = made_bytes(program)
        self.assertTrue(type(code) is tuple and all(type(byte) is int and 0 <= byte <= 255 for byte in code))
        unit, plain = load(code), plain_unit(program)
        self.assertIs(is_taken(unit), True)
        self.assertEqual(unit_of(code), unit)
        sharing = sharing_between(plain, unit)
        self.assertEqual(judge_sharing(plain, sharing), ("apart",))
        self.assertEqual(shared(plain, sharing), unit)
        self.assertEqual(chain_bounds(program), load_bounds(code))
        self.assertEqual(chain_bounds(program), load_bounds(bytes_of(plain)))
        self.assertEqual(len(chain_bounds(program)), len(program))
        return unit

    def runs(self, program, f, leads, softs):
        """The run of the bytes has the outcomes of the meaning and the machine's steps, within the bounds."""
        at = [function[1] for function in program].index(f)
        outcomes, steps = run(program, f, leads, softs)
        told = chained(program, f, leads, softs)
        self.assertEqual(told[0], outcomes)
        self.assertEqual(told, machine.run(plain_unit(program), at, leads, softs))
        self.assertEqual(told, machine.run(load(made_bytes(program)), at, leads, softs))
        self.assertLessEqual(told[1], 2 * steps)
        lengths = tuple(len(lead) for lead in leads)
        longest = max([len(soft) for soft in softs], default=0)
        for q, p in (chain_bounds(program)[at],):
            self.assertLessEqual(told[1], poly_value(len(leads), p, lengths))
            self.assertLessEqual(max(len(outcome) for outcome in outcomes), longest + poly_value(len(leads), q, lengths))
        q, p = bounds(program)[at]
        self.assertLessEqual(steps, poly_value(len(leads), p, lengths))
        self.assertLessEqual(max(len(outcome) for outcome in outcomes), longest + poly_value(len(leads), q, lengths))

    def test_the_program_without_functions(self):
        self.assertEqual(made_bytes(()), (81, 84, 0, 0, 0))
        self.assertEqual(chain_bounds(()), ())

    def test_small_programs(self):
        self.made(MARKS)
        self.runs(MARKS, "marks", ("010",), ("0",))
        self.runs(MARKS, "marks", ("",), ("",))
        self.assertEqual(chained(MARKS, "marks", ("010",), ("0",)), (("0111",), 11))
        self.made(TWO)
        for leads in (("", ""), ("01", "110"), ("1" * 10, "0" * 10)):
            self.runs(TWO, "f", leads, ("10",))

    def test_drawn_programs(self):
        rng = random.Random(1)
        runs = 0
        for seed in range(250):
            program = ProgramMaker(seed).program()
            small = simplified(program)
            self.made(program)
            self.made(small)
            for (_, f, leads, softs, *_), (_, p), (_, code_p) in zip(program, bounds(program), chain_bounds(program)):
                inputs = tuple(word(rng, 6) for _ in leads), tuple(word(rng, 6) for _ in softs)
                lengths = tuple(len(lead) for lead in inputs[0])
                if poly_value(len(leads), p, lengths) > 20000 or poly_value(len(leads), code_p, lengths) > 4000:
                    continue
                runs += 1
                self.runs(program, f, *inputs)
                self.runs(small, f, *inputs)
                self.assertEqual(chained(small, f, *inputs)[0], chained(program, f, *inputs)[0])
                self.assertEqual(chained(read(written(program)), f, *inputs), chained(program, f, *inputs))
        self.assertGreater(runs, 300)

    def test_parts_of_the_shelf(self):
        program = shelf()
        for many, f, leads, softs in ((1, "turned", ("0110111",), ()), (2, "joined", ("0110",), ("111",)), (4, "times", ("0110", "111"), ()),
                                      (5, "sorted", ("0110111",), ()), (8, "next", ("0111",), ())):
            part = program[:many]
            self.assertEqual(part[-1][1], f)
            self.made(part)
            self.runs(part, f, leads, softs)

    def test_programs(self):
        for program in ODD_VALUES + ((MARKS[0], MARKS[0]), list(MARKS), (("fun", "f", (), ("a",), (), (("let", "b", ("name", "a")),), (("name", "a"),)),)):
            if program == ():
                continue
            for function, others in ((made_bytes, ()), (chain_bounds, ()), (chained, (["bad"],) * 3), (chained, ("marks", ("0",), ("1",)))):
                with self.assertRaises(BadProgram) as caught:
                    function(program, *others)
                self.assertIs(caught.exception.thing, program)

    def test_names_and_inputs(self):
        bad = ["bad"]
        for f in ODD_VALUES + ("mark", "Marks", ("marks",)):
            for program in ((), MARKS):
                with self.assertRaises(BadName) as caught:
                    chained(program, f, bad, bad)
                self.assertIs(caught.exception.thing, f)
        for thing in ODD_VALUES + (["0"], ("0", "1"), ("2",), "0", (None,), (("0",),), (["0"],), ("0 ",), (0,)):
            if thing == ("0",):
                continue
            for arguments in ((thing, bad), (("0",), thing), (thing, ("1",))):
                with self.assertRaises(BadInputs) as caught:
                    chained(MARKS, "marks", *arguments)
                self.assertIs(caught.exception.thing, thing)

    def test_at_the_limits(self):
        lines = ["fun f%d(x, y; a, b) own s" % 0, "  give a"]
        for k in range(1, 8):
            lines += ["fun f%d(x, y; a, b) own s" % k, "  each x as r, l", "    set a = f%d(y, x; a, b)" % (k - 1 if k < 3 else 0), "  give a + 1"]
        program = read("\n".join(lines))
        self.made(program)
        self.runs(program, "f7", ("1" * 40, "0"), ("1", ""))
