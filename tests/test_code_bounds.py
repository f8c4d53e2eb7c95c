"""Bounds that are read off rows [7.3]."""

import unittest

from quicktongue.bounds import bounds
from quicktongue.code import first_fault
from quicktongue.codebounds import code_bounds
from quicktongue.errors import BadUnit
from quicktongue.polys import is_poly
from quicktongue.texts import read
from tests.slowcode import slow_code_pairs
from tests.support import ODD_VALUES
from tests.unitmaker import UnitMaker, code_of, l, unit_of_codes

MARKS = code_of(1, 1, 3, 1, "each l0 l1 l2; put s0 s0 1; end; give (s0)")


def poly(*coefficients):
    """The polynomial over one length with these coefficients for its powers."""
    return tuple(((at,), coefficient) for at, coefficient in enumerate(coefficients) if coefficient)


class CodeBoundsTest(unittest.TestCase):
    def pair(self, text, q, p, before=(), leads=1):
        """The last code of a unit, with such rows, has these polynomials, told by coefficients if it has one lead."""
        unit = unit_of_codes(*before, code_of(leads, 1, 9, 9, text))
        self.assertIsNone(first_fault(unit))
        found = code_bounds(unit)
        told = (poly(*q), poly(*p)) if leads == 1 else (q, p)
        self.assertEqual(found[-1], told, text)
        self.assertEqual(slow_code_pairs(unit), found)

    def test_give(self):
        self.pair("give (s0)", (), (1,))
        self.pair("give (l0)", (0, 1), (1,))
        self.pair("word l1 0000; give (s0 l0 l1 l0)", (4, 1), (2,))

    def test_rows_that_write_leading_registers(self):
        self.pair("word l1 011; give (l1)", (3,), (2,))
        self.pair("word l1 011; give (s0)", (), (2,))
        self.pair("word l1 -; give (l1)", (), (2,))
        self.pair("move l1 l0; give (l1)", (0, 1), (2,))
        self.pair("put l1 l0 0; put l1 l1 0; give (l1)", (2, 1), (3,))
        self.pair("cut l1 l0; give (l1)", (0, 1), (2,))
        self.pair("put l0 l0 1; give (l0)", (1, 1), (2,))
        self.pair("word l0 01; give (l0)", (2,), (2,))

    def test_rows_that_write_soft_registers(self):
        self.pair("word s1 011; give (s1)", (3,), (2,))
        self.pair("word s1 -; give (s1)", (), (2,))
        self.pair("move s1 l0; give (s1)", (0, 1), (2,))
        self.pair("move s1 s0; give (s1)", (), (2,))
        self.pair("put s1 s0 0; put s1 s1 0; give (s1)", (2,), (3,))
        self.pair("put s1 l0 0; give (s0)", (1, 1), (2,))
        self.pair("cut s1 l0; cut s1 s0; give (s1)", (0, 1), (3,))
        self.pair("word l1 00; move s1 l1; put s1 l1 0; give (l0)", (2 + 3, 1), (4,))

    def test_rounds(self):
        self.pair("each l0 l1 l2; end; give (s0)", (), (2, 1))
        self.pair("each l0 l1 l2; put s0 s0 1; put s0 s0 0; end; give (s0)", (0, 2), (2, 3))
        self.pair("each l0 l1 l2; move s0 l1; end; give (s0)", (0, 0, 1), (2, 2))
        self.pair("each l0 l1 l2; move s0 l2; end; give (s0)", (0, 1), (2, 2))
        self.pair("put l1 l0 0; each l1 l2 l3; put s0 s0 1; end; give (s0)", (1, 1), (1 + 1 + 2 + 1, 2))
        self.pair("word l1 000; each l1 l2 l3; put s0 s0 1; end; give (s0)", (3,), (1 + 1 + 6 + 1,))

    def test_rounds_within_one_another(self):
        self.pair("each l0 l1 l2; each l1 l3 l4; put s0 s0 1; end; word s1 00; end; give (s0)", (0, 2, 1), (2, 1 + 1 + 1, 2))
        self.pair("each l0 l1 l2; each l2 l3 l4; move s0 l3; end; end; give (s0)", (0, 1), (2, 1 + 1 + 2))
        self.pair("each l0 l1 l2; each l1 l3 l4; each l3 l5 l6; put s0 s0 1; end; end; end; give (s0)",
                  (0, 0, 0, 1), (2, 1 + 1, 1 + 1, 2))

    def test_a_round_that_writes_its_leader(self):
        self.pair("each l0 l1 l2; word l0 00; move s0 l0; end; give (s0)", (0, 2), (2, 3))
        self.pair("put l1 l0 0; each l1 l1 l2; move s0 l1; end; give (s0)", (1, 2, 1), (1 + 1 + 2 + 1, 2))
        self.pair("each l0 l0 l2; put l0 l0 1; move s0 l0; end; give (s0)", (0, 1, 1), (2, 3))

    def test_a_register_has_its_old_polynomial_behind_a_round(self):
        self.pair("put l1 l0 0; each l0 l2 l3; put l4 l1 0; move s0 l4; end; move s0 l1; give (l1)",
                  (1 + 1, 2 + 1 + 1, 1), (1 + 1 + 1 + 1, 3))

    def test_branches(self):
        self.pair("when s0; zero; one; end; give (s0)", (), (2,))
        self.pair("when s0; word s0 00; zero; move s0 l0; word s0 0; one; word s0 -; end; give (s0)", (2, 1), (1 + 2 + 1,))
        self.pair("when l0; each l0 l1 l2; end; zero; word s0 0; word s0 0; word s0 0; one; end; give (s0)", (3,), (1 + 3 + 1, 1))

    def test_leading_registers_written_in_branches(self):
        self.pair("when s0; word l1 000; zero; put l1 l0 0; one; move l1 l0; end; give (l1)", (3, 1), (1 + 1 + 1,))
        self.pair("word l1 000; when s0; zero; move l1 l0; one; end; give (l1)", (3, 1), (2 + 1 + 1,))
        self.pair("word l1 000; when s0; word l1 -; zero; word l1 0; one; word l1 00; end; move s0 l1; give (s0)", (2,), (5,))
        self.pair("when s0; word l1 000; word l2 0; zero; word l1 0; one; word l1 -; end; each l1 l2 l3; put s0 s0 0; end; give (s0)",
                  (3,), (1 + 2 + 1 + 3 * 2 + 1,))

    def test_rounds_in_branches_and_branches_in_rounds(self):
        self.pair("when s0; each l0 l1 l2; put s0 s0 1; end; zero; word s0 00000; one; end; give (s0)", (5, 1), (1 + 1 + 1, 2))
        self.pair("each l0 l1 l2; when l2; put s0 s0 1; zero; word s0 00; move s0 l1; one; end; end; give (s0)",
                  (0, 2, 1), (2, 1 + 1 + 2))

    def test_calls(self):
        self.pair("call 0 (l0) (s0) (s1); give (s1)", (0, 1), (1 + 2 + 1, 2), before=(MARKS,))
        self.pair("call 0 (l0) (l0) (s1); give (s1)", (0, 2), (1 + 2 + 1, 2), before=(MARKS,))
        self.pair("call 0 (l0) (l0) (l1); give (s0)", (), (1 + 2 + 1, 2), before=(MARKS,))
        self.pair("put l1 l0 0; call 0 (l1) (l1) (l2); give (l2)", (2, 2), (1 + 1 + 2 + 2 + 1, 2), before=(MARKS,))
        self.pair("each l0 l1 l2; call 0 (l1) (s0) (s0); end; give (s0)", (0, 0, 1), (2, 1 + 1 + 2, 2), before=(MARKS,))

    def test_calls_of_calls(self):
        times = code_of(2, 0, 4, 1, "each l0 l2 l3; call 0 (l1) (s0) (s0); end; give (s0)")
        unit = unit_of_codes(MARKS, times, code_of(1, 0, 3, 1, "call 1 (l0 l0) () (l1); call 1 (l1 l0) () (s0); give (s0)"))
        found = code_bounds(unit)
        self.assertEqual(found[1], ((((1, 1), 1),), (((0, 0), 2), ((1, 0), 4), ((1, 1), 2))))
        self.assertEqual(found[2], (poly(0, 0, 0, 1), poly(3 + 2 + 2, 4, 2 + 4, 2)))
        self.assertEqual(slow_code_pairs(unit), found)

    def test_calls_with_several_outs_and_softs(self):
        two = code_of(1, 2, 1, 2, "put s0 s0 0; put s1 s1 1; give (s0 l0 s1)")
        self.pair("call 0 (l0) (s0 s1) (s1 s2 s3); give (s1)", (2, 1), (1 + 3 + 1,), before=(two,))
        self.pair("word l1 000; call 0 (l0) (l0 l1) (s1 l2 s3); give (l2)", (2 + 3 + 2 + 3, 2 + 2), (1 + 1 + 3 + 1,), before=(two,))
        self.pair("word l1 000; call 0 (l0) (l0 l1) (l3 l2 l4); give (s0)", (), (1 + 1 + 3 + 1,), before=(two,))

    def test_other_numbers_of_leads(self):
        self.pair("word l0 00; each l0 l1 l2; put s0 s0 0; end; give (s0)", (((), 2),), (((), 1 + 1 + 4 + 1),), leads=0)
        self.pair("each l0 l3 l4; each l1 l5 l6; move s0 l2; end; end; give (s0 l1)",
                  (((0, 1, 0), 1), ((1, 1, 1), 1)), (((0, 0, 0), 2), ((1, 0, 0), 2), ((1, 1, 0), 2)), leads=3)

    def test_the_unit_without_codes(self):
        self.assertEqual(code_bounds(((), (), ())), ())

    def test_many_units(self):
        for seed in range(250):
            unit = UnitMaker(seed).unit()
            found = code_bounds(unit)
            self.assertEqual(found, slow_code_pairs(unit))
            for code, pair in zip(unit[1], found):
                self.assertTrue(all(is_poly(code[0], one) for one in pair))

    def test_at_the_limits(self):
        text = "; ".join(["each l0 l%d l%d" % (2 * k + 1, 2 * k + 2) for k in range(5)] + ["put s%d s0 1" % (k % 40) for k in range(109)]
                         + ["end"] * 5 + ["give (s0)"])
        first = code_of(1, 1, 40, 40, text)
        later = [code_of(1, 1, 40, 40, "; ".join(["call %d (l0) (s0) (s0)" % k] * 119 + ["give (s0)"])) for k in range(11)]
        found = code_bounds(unit_of_codes(first, *later))
        self.assertEqual(found[0], (poly(0, 0, 0, 0, 0, 109), poly(2, 2, 2, 2, 2, 110)))
        self.assertEqual(found[2][0], poly(0, 0, 0, 0, 0, 109 * 119 ** 2))
        self.assertEqual(found[11][0], poly(0, 0, 0, 0, 0, 109 * 119 ** 11))


class WhatIsNoWholeTakenUnitTest(unittest.TestCase):
    def test_bad_units(self):
        needing = unit_of_codes(MARKS, needs=(("n", 0, 0, 1),))
        open_one = unit_of_codes((0, 0, 1, 1, (("when", l(0)),)))
        for thing in ODD_VALUES + (needing, open_one, unit_of_codes(code_of(0, 0, 1, 1, "give (l0)")), [unit_of_codes(MARKS)]):
            with self.assertRaises(BadUnit) as caught:
                code_bounds(thing)
            self.assertIs(caught.exception.thing, thing)

    def test_they_are_like_those_of_the_text(self):
        """The rows of a program made by hand have q as the text has it."""
        program = read("fun marks(x; a)\n  each x as r, l\n    set a = a + 1\n  give a")
        self.assertEqual(code_bounds(unit_of_codes(MARKS))[0][0], bounds(program)[0][0])
