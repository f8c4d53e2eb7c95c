"""The bytes of units [10.1]."""

import random
import unittest

from quicktongue.bytework import bytes_of, unit_of
from quicktongue.compiler import plain_unit
from quicktongue.errors import BadBytes, BadUnit
from tests.loosemaker import loose_unit
from tests.slowbytes import slow_bytes, slow_is_given
from tests.slowcode import slow_is_unit
from tests.support import ODD_VALUES, ProgramMaker, bent
from tests.unitmaker import UnitMaker, code_of, l, rows_of, s

GIVE = (11, 1, 0)


class BytesOfTest(unittest.TestCase):
    def both(self, unit, code):
        """The unit has these bytes, and they lead back to it."""
        self.assertEqual(bytes_of(unit), tuple(code))
        self.assertEqual(slow_bytes(unit), tuple(code))
        self.assertEqual(unit_of(tuple(code)), unit)

    def row(self, text, *code):
        """The row has these bytes."""
        self.both(((), ((0, 0, 0, 0, rows_of(text + "; give (l0)")),), ()), (81, 84, 0, 1, 0, 0, 0, 0) + code + GIVE + (0,))

    def test_the_unit_without_anything(self):
        self.both(((), (), ()), (81, 84, 0, 0, 0))

    def test_needs(self):
        self.both(((("n", 0, 0, 1),), (), ()), (81, 84, 1, 1, 110, 0, 0, 1, 0, 0))
        self.both(((("az", 3, 255, 2), ("q_9", 255, 0, 255)), (), ()),
                  (81, 84, 2, 2, 97, 122, 3, 255, 2, 3, 113, 95, 57, 255, 0, 255, 0, 0))

    def test_names_of_all_lengths(self):
        for many in range(1, 21):
            name = "abcdefghijklmnopqrst"[:many]
            signs = tuple(range(97, 97 + many))
            self.both((((name, 1, 2, 3),), (), ()), (81, 84, 1, many) + signs + (1, 2, 3, 0, 0))
            self.both(((), ((0, 0, 0, 0, (("give", (l(0),)),)),), ((name, 0),)),
                      (81, 84, 0, 1, 0, 0, 0, 0) + GIVE + (1, many) + signs + (0,))

    def test_codes_and_shows(self):
        codes = ((1, 2, 3, 4, (("give", (l(0),)),)), (0, 0, 255, 255, (("give", (s(127), l(127))),)))
        self.both(((), codes, ()), (81, 84, 0, 2, 1, 2, 3, 4) + GIVE + (0, 0, 255, 255, 11, 2, 255, 127, 0))
        self.both(((), codes, (("z", 1), ("a", 0), ("b0", 1))),
                  (81, 84, 0, 2, 1, 2, 3, 4) + GIVE + (0, 0, 255, 255, 11, 2, 255, 127, 3, 1, 122, 1, 1, 97, 0, 2, 98, 48, 1))

    def test_rows(self):
        self.row("word l3 -", 1, 3, 0)
        self.row("word s3 0110", 1, 131, 4, 0, 1, 1, 0)
        self.row("move l1 s2", 2, 1, 130)
        self.row("put s0 l5 0", 3, 128, 5, 0)
        self.row("put l0 s5 1", 3, 0, 133, 1)
        self.row("cut l127 s127", 4, 127, 255)
        self.row("call 0 () () ()", 5, 0, 0, 0, 0)
        self.row("call 255 (l1 s1) (s2) (l3 l3 s3)", 5, 255, 2, 1, 129, 1, 130, 3, 3, 3, 131)
        self.row("when s9", 6, 137)
        self.row("zero", 7)
        self.row("one", 8)
        self.row("end", 9)
        self.row("each l1 s2 l3", 10, 1, 130, 3)

    def test_give_with_many_registers(self):
        regs = tuple(s(k) for k in range(40))
        self.both(((), ((0, 0, 0, 40, (("give", regs),)),), ()),
                  (81, 84, 0, 1, 0, 0, 0, 40, 11, 40) + tuple(range(128, 168)) + (0,))

    def test_words_of_all_lengths(self):
        rng = random.Random(1)
        for many in range(61):
            word = "".join(rng.choice("01") for _ in range(many))
            self.row("word s0 " + (word or "-"), 1, 128, many, *map(int, word))

    def test_rows_of_any_shape(self):
        self.row("end; one; zero; each s0 s0 s0; when l0", 9, 8, 7, 10, 128, 128, 128, 6, 0)

    def test_many_units(self):
        rng = random.Random(2)
        seen = {}
        for seed in range(1200):
            unit = loose_unit(rng) if seed % 3 else UnitMaker(seed, seed % 2 == 0).unit()
            code = bytes_of(unit)
            self.assertEqual(code, slow_bytes(unit))
            self.assertTrue(all(type(byte) is int and 0 <= byte <= 255 for byte in code))
            self.assertEqual(unit_of(code), unit)
            self.assertEqual(seen.setdefault(code, unit), unit)

    def test_plain_units(self):
        for seed in range(100):
            unit = plain_unit(ProgramMaker(seed).program())
            self.assertEqual(unit_of(bytes_of(unit)), unit)

    def test_at_the_limits(self):
        names = ["".join(pair) + "_" * 18 for pair in zip("abcdefghijkl", "mnopqrstuvwx")]
        rows = (("word", s(39), "01" * 30), ("call", 23, (l(39),) * 40, (s(0),) * 40, tuple(s(k) for k in range(40)))) * 59
        rows = rows + (("put", l(39), l(38), "1"), ("give", (s(39),) * 40))
        unit = (tuple((name, 40, 40, 40) for name in names), ((1, 1, 40, 40, rows),) * 12,
                tuple((name, k) for k, name in enumerate(names)))
        self.assertEqual(bytes_of(unit), slow_bytes(unit))
        self.assertEqual(unit_of(bytes_of(unit)), unit)

    def test_many_needs_and_shows(self):
        signs = "abcdefghijklmnopqrstuvwxyz"
        names = [first + second for first in signs[:10] for second in signs][:255]
        names[names.index("as")] = "zz"
        unit = (tuple((name, 1, 1, 1) for name in names), (code_of(0, 0, 0, 1, "give (s0)"),) * 255, tuple((name, 254) for name in names))
        self.assertEqual(unit_of(bytes_of(unit)), unit)

    def test_functions_without_a_give_at_the_end_alone(self):
        for text in ("zero", "word s0 0; end", "give (s0); zero", "give (s0); give (s0)", "give (s0); end; give (s0)", "give (l0); when s0"):
            for codes in ((code_of(1, 1, 1, 1, text),), (code_of(1, 1, 1, 1, "give (s0)"), code_of(1, 1, 1, 1, text)),
                          (code_of(1, 1, 1, 1, text), code_of(1, 1, 1, 1, "give (s0)"))):
                self.bad(((), codes, ()))
        self.bad(((), ((0, 0, 0, 0, ()),), (("f", 0),)))

    def bad(self, unit):
        with self.assertRaises(BadUnit) as caught:
            bytes_of(unit)
        self.assertIs(caught.exception.thing, unit)

    def test_no_units(self):
        for thing in ODD_VALUES:
            self.bad(thing)
        rng = random.Random(3)
        bad = 0
        for _ in range(1500):
            unit = bent(loose_unit(rng), rng)
            if slow_is_unit(unit) and all(slow_is_given(code[4]) for code in unit[1]):
                self.assertEqual(bytes_of(unit)[:2], (81, 84))
            else:
                bad += 1
                self.bad(unit)
        self.assertGreater(bad, 800)


class NoBytesTest(unittest.TestCase):
    def test_values_that_are_no_bytes(self):
        right = (81, 84, 0, 0, 0)
        others = [list(right), dict.fromkeys(right), "81", bytes(right), bytearray(right), None, 5, True]
        for at in range(5):
            for byte in (-1, 256, 10 ** 39, -10 ** 39, True, False, None, "0", "", (0,), [0], 0.0):
                others.append(right[:at] + (byte,) + right[at + 1:])
                others.append(right[:at] + (byte,) + right[at:])
        others += [(81, 84, 0, 0, 0, True), (0, 0, 256), (False,), ((),), ((81, 84, 0, 0, 0),)]
        for code in others + [value for value in ODD_VALUES if type(value) is not tuple]:
            with self.assertRaises(BadBytes) as caught:
                unit_of(code)
            self.assertEqual(caught.exception.at, -1, code)

    def test_other_values(self):
        for code in ODD_VALUES:
            are = type(code) is tuple and all(type(byte) is int and 0 <= byte <= 255 for byte in code)
            with self.assertRaises(BadBytes) as caught:
                unit_of(code)
            self.assertEqual(caught.exception.at, 0 if are else -1)
            self.assertIs(type(caught.exception.at), int)
