"""Units of code [7.1]."""

import random
import unittest

from quicktongue.code import is_taken, is_unit
from tests.slowcode import slow_is_unit
from tests.support import KEPT_WORDS, ODD_VALUES, at_path, bent, replaced, sub_paths
from tests.unitmaker import UnitMaker, l, rows_of, s

ROWS = rows_of("word s0 01; word l1 -; move l1 l0; put s1 s0 0; put s1 s0 1; cut s0 l0; call 0 (l0 l1) (s0) (s1 l2);"
               "call -7 () () (); when s0; zero; one; end; each l0 l1 l2; end; give (s0 l0)")
UNIT = ((("other", 2, 1, 2),), ((1, 2, 4, 3, ROWS), (0, 0, 0, 0, ())), (("f", 0), ("g", 1), ("h", 0)))


class IsUnitTest(unittest.TestCase):
    def row(self, row, right):
        """The row is one, or not, as one of several in a unit."""
        for rows in ((row,), ROWS + (row,), (row,) + ROWS):
            unit = ((), ((0, 0, 1, 1, rows),), ())
            self.assertIs(is_unit(unit), right, row)
            self.assertIs(slow_is_unit(unit), right)

    def code(self, code, right):
        for codes in ((code,), UNIT[1] + (code,), (code,) + UNIT[1]):
            self.assertIs(is_unit((UNIT[0], codes, ())), right, code)

    def unit(self, unit, right):
        self.assertIs(is_unit(unit), right, unit)
        self.assertIs(slow_is_unit(unit), right)

    def test_right_units(self):
        self.unit(UNIT, True)
        self.unit(((), (), ()), True)
        self.unit(((("n", 0, 0, 1), ("m", 5, 0, 7)), (), ()), True)
        self.unit(((), ((0, 0, 0, 0, ()),), ()), True)
        self.unit(((("n", 0, 0, 1),), ((0, 0, 0, 0, ()),), (("n", 0),)), True)
        for seed in range(60):
            self.unit(UnitMaker(seed, seed % 2 == 0).unit(), True)

    def test_right_rows(self):
        for row in ROWS:
            self.row(row, True)
        for row in (("word", l(10 ** 39), "0" * 3000), ("call", 10 ** 39, (l(0),) * 50, (), (l(1), l(1))), ("give", (s(0), s(0))),
                    ("each", s(0), s(0), s(0)), ("move", s(5), s(5)), ("call", -1, (s(0),), (l(0),), ())):
            self.row(row, True)

    def test_rows_with_a_part_left_out_or_put_twice(self):
        for row in ROWS:
            for k in range(len(row)):
                without = row[:k] + row[k + 1:]
                self.row(without, False)
                twice = row[:k + 1] + row[k:]
                self.row(twice, False)

    def test_other_rows(self):
        for row in (
                (), ("stop",), ("ZERO",), ("zero", ()), ("end", None), (None,), (("zero",),), ("give", ()), ("give", l(0)),
                ("give", (l(0), 0)), ("give", [l(0)]), ("word", l(0), "2"), ("word", l(0), None), ("word", "01", l(0)),
                ("word", l(0), l(0)), ("put", l(0), l(0), 0), ("put", l(0), l(0), "01"), ("put", l(0), l(0), ""),
                ("put", "0", l(0), l(0)), ("put", l(0), l(0), True), ("call", "0", (), (), ()), ("call", True, (), (), ()),
                ("call", None, (), (), ()), ("call", 0, [], (), ()), ("call", 0, (), l(0), ()), ("call", 0, (), (), (("l",),)),
                ("call", (), (), (), 0), ("each", l(0), l(1), 2), ("each", (l(0), l(1), l(2))), ("when", "s0"), ("when", (s(0),)),
                "zero", ["zero"], None, 0, ("when", s(0), (), (), ()), ("let", l(0), l(1)), ("zero" "zero",)):
            self.row(row, False)

    def test_registers(self):
        for reg, right in (
                (l(0), True), (s(3), True), (l(10 ** 39), True), (("l", -1), False), (("l", True), False), (("l", "0"), False),
                (("l",), False), (("l", 0, 0), False), (("m", 0), False), (("L", 0), False), ((0, "l"), False), (["l", 0], False),
                ("l0", False), (None, False), ((), False), ((("l",), 0), False), (("ls", 0), False), (("", 0), False),
                ((["l"], 0), False), (({}, 0), False), (("l", None), False), (("l", 0.0), False)):
            for row in (("when", reg), ("move", reg, s(0)), ("cut", s(0), reg), ("word", reg, "0"), ("give", (reg,)),
                        ("call", 0, (reg,), (), ()), ("call", 0, (), (s(0), reg), ()), ("call", 0, (), (), (reg,)),
                        ("each", reg, l(0), l(1)), ("each", l(0), reg, l(1)), ("each", l(0), l(1), reg), ("put", s(0), reg, "1")):
                self.row(row, right)

    def test_code_functions(self):
        for code, right in (
                ((0, 0, 0, 0, ()), True), ((1, 2, 1, 2, ROWS), True), ((0, 0, 10 ** 39, 10 ** 38, ()), True),
                ((2, 0, 1, 5, ()), False), ((0, 2, 5, 1, ()), False), ((-1, 0, 0, 0, ()), False), ((0, -1, 0, 0, ()), False),
                ((0, 0, -1, 0, ()), False), ((0, 0, 0, -1, ()), False), ((True, 0, 1, 0, ()), False), ((0, False, 0, 0, ()), False),
                ((0, 0, True, 0, ()), False), ((0, 0, 0, False, ()), False), ((0, 0, 0, 0), False), ((0, 0, 0, 0, (), ()), False),
                ((0, 0, 0, 0, []), False), ([0, 0, 0, 0, ()], False), ((0, 0, 0, 0, None), False), (("0", 0, 0, 0, ()), False),
                ((0, 0, 0, 0, ("zero",)), False), ((0, 0, 0, 0, (("zero",), [])), False), ((), False), ((None,) * 5, False)):
            self.code(code, right)

    def test_needs(self):
        for need, right in (
                (("n", 0, 0, 1), True), (("n", 9, 10 ** 39, 3), True), (("n", 0, 0, 0), False), (("n", 0, 0, -1), False),
                (("n", -1, 0, 1), False), (("n", 0, -1, 1), False), (("n", True, 0, 1), False), (("n", 0, False, 1), False),
                (("n", 0, 0, True), False), (("n", 0, 0), False), (("n", 0, 0, 1, 1), False), (["n", 0, 0, 1], False),
                (("N", 0, 0, 1), False), (("", 0, 0, 1), False), (("n" * 21, 0, 0, 1), False), ((0, 0, 0, 1), False),
                ((("n",), 0, 0, 1), False), (("n", "0", 0, 1), False), ("n", False), (None, False), ((), False)):
            self.unit(((need,), (), ()), right)
            self.unit(((("other", 1, 1, 1), need), (), ()), right)
        for name in KEPT_WORDS:
            self.unit((((name, 0, 0, 1),), (), ()), False)
            self.unit(((), UNIT[1], ((name, 0),)), False)

    def test_shows(self):
        for show, right in (
                (("n", 0), True), (("n", 1), True), (("n", 2), False), (("n", -1), False), (("n", True), False),
                (("n", False), False), (("n", None), False), (("n",), False), (("n", 0, 0), False), (["n", 0], False), ((0, "n"), False),
                (("1n", 0), False), ((None, 0), False), (("n", (0,)), False), ("n", False), ((), False)):
            self.unit(((), UNIT[1], (show,)), right)
            self.unit(((), UNIT[1], (("m", 1), show)), right)
        self.unit(((), (), (("n", 0),)), False)

    def test_unlike_names(self):
        need = ("n", 0, 0, 1)
        for other, right in ((("n", 0, 0, 1), False), (("n", 1, 2, 3), False), (("m", 0, 0, 1), True)):
            self.unit(((need, other), (), ()), right)
            self.unit(((need, ("k", 0, 0, 1), other), (), ()), right)
        for other, right in ((("n", 0), False), (("n", 1), False), (("m", 0), True)):
            self.unit(((), UNIT[1], (("n", 0), other)), right)

    def test_parts_left_out_put_twice_exchanged_or_put_as_lists(self):
        needs, codes, shows = UNIT
        for thing in (
                (needs, codes), (codes, shows), (needs, codes, shows, ()), (needs, needs, codes, shows), (codes, needs, shows),
                (needs, shows, codes), (shows, codes, needs), [needs, codes, shows], ([], codes, shows), (needs, list(codes), shows),
                (needs, codes, list(shows)), (needs, codes, None), (UNIT,), (needs, codes, dict(shows)), (None, codes, shows)):
            self.assertIs(is_unit(thing), False, thing)
        for path in sub_paths(UNIT):
            part = at_path(UNIT, path)
            if isinstance(part, tuple):
                self.assertIs(is_unit(replaced(UNIT, path, list(part))), False)
            if part in (0, 1) and not isinstance(part, bool):
                self.assertIs(is_unit(replaced(UNIT, path, bool(part))), False)

    def test_any_values(self):
        for thing in ODD_VALUES:
            self.assertIs(is_unit(thing), False)
            self.assertIs(is_taken(thing), False)
        rng = random.Random(2)
        for seed in range(400):
            thing = bent(UnitMaker(seed, False).unit(), rng)
            self.unit(thing, slow_is_unit(thing))
            for _ in range(2):
                other = bent(UNIT, rng)
                self.unit(other, slow_is_unit(other))
