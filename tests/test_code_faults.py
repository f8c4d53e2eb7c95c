"""Faults of units [7.2]."""

import random
import unittest

from quicktongue.code import first_fault, is_taken
from quicktongue.errors import BadUnit
from tests.slowcode import slow_is_unit, slow_shape, slow_unit_faults
from tests.support import ODD_VALUES, bent, replaced, sub_paths
from tests.unitmaker import UnitMaker, code_of, l, rows_of, s, unit_of_codes

WIDE = (1, 1, 6, 4)
ROWS = rows_of("word s0 01; move l1 l0; when l1; put s1 s0 1; zero; each l1 l2 l3; cut s2 l2; end; one; each l0 l2 l3; end; end;"
               "give (s1)")


class FaultTest(unittest.TestCase):
    def fault(self, text, told, wide=WIDE, needs=(), before=()):
        """The last code of a unit, with such rows, has this first fault: a row and a word, or none."""
        unit = unit_of_codes(*before, code_of(*wide, text), needs=needs)
        told = None if told is None else (len(before),) + told
        self.assertEqual(first_fault(unit), told)
        self.assertIs(is_taken(unit), told is None)
        slow = slow_unit_faults(unit)
        self.assertEqual(slow[0] if slow else None, told)

    def test_no_fault(self):
        self.fault("give (s0)", None)
        self.fault("give (l0 s3 s3)", None)
        self.assertIsNone(first_fault(((), (), ())))
        self.assertIsNone(first_fault(unit_of_codes(WIDE + (ROWS,))))
        for seed in range(100):
            unit = UnitMaker(seed, seed % 2 == 0).unit()
            self.assertIsNone(first_fault(unit))
            self.assertIs(is_taken(unit), True)

    def test_registers(self):
        for text in ("word l6 0", "word s4 0", "move l1 l6", "move s1 s4", "put s0 l9 1", "cut s9 l0", "when l6", "call 0 (l6) () (s0)",
                     "call 0 () (s4) (s0)", "call 0 () () (l6)"):
            self.fault(text + ("; zero; one; end" if text[:4] == "when" else "") + "; give (s0)", (0, "register"))
        for text in ("each l6 l1 l2", "each l0 l6 l2", "each l0 l1 l6", "each l0 l1 s4"):
            self.fault(text + "; end; give (s0)", (0, "register"))
        self.fault("give (s0 s4)", (0, "register"))
        self.fault("give (l6)", (0, "register"))
        self.fault("word l0 0; give (l0)", (0, "register"), wide=(0, 0, 0, 0))
        self.fault("word s0 0; give (s0)", (0, "register"), wide=(0, 0, 9, 0))

    def test_numbers_of_calls(self):
        one = code_of(1, 1, 1, 1, "give (s0 l0)")
        need = ("n", 0, 2, 1)
        for number, told in ((-1, "call"), (0, None), (1, "call"), (2, "call"), (10 ** 39, "call"), (-10 ** 39, "call")):
            told = told and (0, told)
            self.fault("call %d (l0) (s0) (s1 s2); give (s0)" % number, told, before=(one,))
        for number, told in ((-1, "call"), (0, None), (1, "call"), (2, "call")):
            self.fault("call %d () (s0 l0) (s1); give (s0)" % number, told and (0, told), before=(one,), needs=(need,))
        self.fault("call 1 (l0) (s0) (s1 s2); give (s0)", None, before=(one,), needs=(need,))
        self.fault("call 0 () () (s0); give (s0)", (0, "call"), wide=(0, 0, 0, 1))

    def test_numbers_of_registers_of_calls(self):
        need = ("n", 1, 2, 2)
        for row, right in (
                ("(l0) (s0 s1) (s0 s1)", True), ("() (s0 s1) (s0 s1)", False), ("(l0 l0) (s0 s1) (s0 s1)", False),
                ("(l0) (s0) (s0 s1)", False), ("(l0) (s0 s1 s1) (s0 s1)", False), ("(l0) (s0 s1) (s0)", False),
                ("(l0) (s0 s1) ()", False), ("(l0) (s0 s1) (s0 s1 s2)", False), ("(l0) (l0 s0) (s1 s0)", True)):
            self.fault("call 0 " + row + "; give (s0)", None if right else (0, "call"), needs=(need,))
        zero = ("n", 0, 0, 1)
        self.fault("call 0 () () (s0); give (s0)", None, needs=(zero,))
        self.fault("call 0 () () (); give (s0)", (0, "call"), needs=(zero,))

    def test_outs_alike(self):
        need = ("n", 0, 0, 2)
        self.fault("call 0 () () (s1 s1); give (s0)", (0, "call"), needs=(need,))
        self.fault("call 0 () () (l1 l1); give (s0)", (0, "call"), needs=(need,))
        self.fault("call 0 () () (l1 s1); give (l1)", None, needs=(need,))
        self.fault("call 0 () () (s1 s2 s1); give (s0)", (0, "call"), needs=(("n", 0, 0, 3),))

    def test_levels(self):
        for text in ("move l1 s0", "put l1 s0 0", "cut l1 s0"):
            self.fault(text + "; give (s0)", (0, "level"))
            self.fault(text.replace("s0", "l0") + "; give (l1)", None)
            self.fault(text.replace("l1", "s1") + "; give (s0)", None)
            self.fault(text.replace("l1", "s1").replace("s0", "l0") + "; give (s0)", None)
        for text in ("each s0 l1 l2", "each l0 s1 l2", "each l0 l1 s2", "each s0 s0 s0"):
            self.fault(text + "; end; give (s0)", (0, "level"))
        self.fault("when s0; zero; one; end; give (s0)", None)
        self.fault("word l1 0; give (l1)", None)

    def test_levels_of_calls(self):
        need = ("n", 1, 1, 2)
        for row, right in (
                ("(s0) (s1) (s0 s1)", False), ("(l0) (s1) (s0 s1)", True), ("(l0) (s1) (l1 l2)", False),
                ("(l0) (s1) (s0 l1)", False), ("(l0) (s1) (l1 s0)", False), ("(l0) (l0) (l1 s0)", True), ("(s0) (l0) (l1 s0)", False)):
            self.fault("call 0 " + row + "; give (s0)", None if right else (0, "level"), needs=(need,))

    def test_twice(self):
        self.fault("each l0 l1 l1; end; give (s0)", (0, "twice"))
        self.fault("each l0 l0 l1; end; give (s0)", None)
        self.fault("each l0 l1 l0; end; give (s0)", None)

    def test_unset(self):
        for text in ("move s0 l1", "move l2 l1", "put s0 l1 0", "cut l2 l1", "call 0 (l1) (s0) (s1)", "call 0 (l0) (l1) (s1)"):
            self.fault(text + "; give (s0)", (0, "unset"), needs=(("n", 1, 1, 1),))
            self.fault("word l1 -; " + text + "; give (s0)", None, needs=(("n", 1, 1, 1),))
        self.fault("when l1; zero; one; end; give (s0)", (0, "unset"))
        self.fault("each l1 l2 l3; end; give (s0)", (0, "unset"))
        self.fault("give (s0 l1)", (0, "unset"))
        self.fault("move l1 l1; give (s0)", (0, "unset"))
        self.fault("each l1 l1 l2; end; give (s0)", (0, "unset"))
        self.fault("call 0 (l1) (s0) (l1); give (s0)", (0, "level"), needs=(("n", 1, 1, 1),))
        self.fault("call 0 (l1) () (l1); give (s0)", (0, "unset"), needs=(("n", 1, 0, 1),))

    def test_unset_behind_rounds_and_branches(self):
        self.fault("each l0 l1 l2; move s0 l1; end; move s0 l1; give (s0)", (3, "unset"))
        self.fault("each l0 l1 l2; move s0 l2; end; give (l2)", (3, "unset"))
        self.fault("each l0 l0 l2; end; move s0 l0; give (s0)", (2, "unset"))
        self.fault("word l1 0; each l0 l2 l3; move s0 l1; word l1 1; end; give (s0)", (2, "unset"))
        self.fault("word l1 0; each l0 l2 l3; word l1 1; move s0 l1; end; give (s0)", None)
        self.fault("word l1 0; each l0 l2 l3; word l1 1; end; give (l1)", (4, "unset"))
        self.fault("each l0 l2 l3; word l1 1; each l1 l4 l5; end; move s0 l1; end; give (s0)", None)
        self.fault("each l0 l2 l3; word l1 1; each l1 l4 l1; end; move s0 l1; end; give (s0)", (4, "unset"))
        self.fault("when s0; word l1 0; zero; word l1 1; one; end; give (l1)", (6, "unset"))
        self.fault("when s0; word l1 0; zero; word l1 1; one; word l1 -; end; give (l1)", None)
        self.fault("when s0; word l1 0; zero; move s0 l1; one; end; give (s0)", (3, "unset"))

    def test_the_first_fault(self):
        needs = (("n", 1, 1, 1),)
        self.fault("call 5 (l1) (s9) (s0); give (s0)", (0, "register"), needs=needs)
        self.fault("call 5 (s0) (s0) (l1); give (s0)", (0, "call"), needs=needs)
        self.fault("call 0 (s0) (l1) (s0); give (s0)", (0, "level"), needs=needs)
        self.fault("each l1 l9 l9; end; give (s0)", (0, "register"))
        self.fault("each s1 l2 l2; end; give (s0)", (0, "level"))
        self.fault("each l1 l2 l2; end; give (s0)", (0, "twice"))
        self.fault("move s0 l1; word s9 0; give (s0)", (0, "unset"))
        self.fault("move l1 s0; move s1 l2; give (l9)", (0, "level"))
        self.fault("move s0 s1; give (l9)", (1, "register"))

    def test_the_first_function(self):
        bad = code_of(0, 0, 1, 1, "move l0 s0; give (s0)")
        good = code_of(0, 0, 1, 1, "give (s0)")
        open_one = code_of(0, 0, 1, 1, "move l0 s0; when s0")
        for codes, told in (((bad, open_one), (0, 0, "level")), ((open_one, bad), (0, 2, "shape")), ((good, bad), (1, 0, "level")),
                            ((good, open_one, bad), (1, 2, "shape")), ((good, good), None)):
            self.assertEqual(first_fault(unit_of_codes(*codes)), told)

    def test_a_shape_that_is_not_right_is_the_only_fault(self):
        self.fault("word s9 0; move l1 s0; each l2 l2 l2; zero", (3, "shape"))
        self.fault("word s9 0; give (s0); give (s0)", (2, "shape"))

    def test_calls_of_a_function_with_a_fault(self):
        bad = code_of(0, 0, 1, 1, "zero")
        caller = code_of(0, 0, 1, 1, "call 0 () () (s0); give (s0)")
        self.assertEqual(first_fault(unit_of_codes(bad, caller)), (0, 0, "shape"))


class ShapeTest(unittest.TestCase):
    def shape(self, text, at):
        """The shape of the rows has its fault there, or none."""
        rows = rows_of(text) if text else ()
        self.rows(rows, at)

    def rows(self, rows, at):
        unit = unit_of_codes((1, 1, 9, 9, rows))
        fault = first_fault(unit)
        self.assertEqual(fault if fault and fault[2] == "shape" else None, None if at is None else (0, at, "shape"))
        self.assertEqual(slow_shape(rows), at)

    def test_right_shapes(self):
        for text in ("give (s0)", "when s0; zero; one; end; give (s0)", "each l0 l1 l2; end; give (s0)",
                     "when s0; when s0; zero; one; end; zero; each l0 l1 l2; end; one; word s0 0; end; give (s0)",
                     "each l0 l1 l2; when s0; zero; each l0 l3 l4; end; one; end; end; word s0 1; give (s0)"):
            self.shape(text, None)

    def test_rows_that_are_missing(self):
        for text in ("", "word s0 0", "when s0", "when s0; zero", "when s0; zero; one", "when s0; zero; one; end", "each l0 l1 l2",
                     "each l0 l1 l2; end", "word s0 0; each l0 l1 l2; when s0"):
            self.shape(text, len(rows_of(text)) if text else 0)

    def test_rows_that_cannot_follow(self):
        for text, at in (
                ("zero; give (s0)", 0), ("one", 0), ("end", 0), ("word s0 0; end; give (s0)", 1), ("when s0; one", 1),
                ("when s0; end", 1), ("when s0; zero; zero", 2), ("when s0; zero; end", 2), ("when s0; zero; one; one", 3),
                ("when s0; zero; one; zero", 3), ("when s0; give (s0)", 1), ("when s0; zero; give (s0)", 2),
                ("when s0; zero; one; give (s0)", 3), ("each l0 l1 l2; give (s0)", 1), ("each l0 l1 l2; zero", 1),
                ("each l0 l1 l2; one", 1), ("each l0 l1 l2; end; end", 2), ("when s0; zero; one; end; end", 4),
                ("when s0; each l0 l1 l2; zero", 2), ("each l0 l1 l2; when s0; zero; one; end; zero", 5),
                ("each l0 l1 l2; when s0; end", 2), ("give (s0); give (s0)", 1), ("give (s0); word s0 0; give (s0)", 1),
                ("give (s0); end", 1), ("word s0 1; give (s0); when s0", 2)):
            self.shape(text, at)

    def test_rows_cut_off_and_bent_at_any_place(self):
        for at in range(len(ROWS)):
            self.rows(ROWS[:at], at)
            self.rows(ROWS[:at + 1] + (("give", (s(0),)),) * 2 + ROWS[at + 1:], slow_shape(
                ROWS[:at + 1] + (("give", (s(0),)),) * 2 + ROWS[at + 1:]))
            for other in ROWS + rows_of("give (s0); zero; one; end; when s0"):
                for rows in (ROWS[:at] + (other,) + ROWS[at:], ROWS[:at] + (other,) + ROWS[at + 1:], ROWS[:at] + ROWS[at + 1:]):
                    self.rows(rows, slow_shape(rows))

    def test_many_shapes(self):
        rng = random.Random(6)
        kinds = rows_of("word s0 1; when s0; zero; one; end; each l0 l1 l2; end; give (s0)")
        for _ in range(1500):
            rows = tuple(rng.choice(kinds) for _ in range(rng.randrange(9)))
            self.rows(rows, slow_shape(rows))


class AnyValuesTest(unittest.TestCase):
    def test_bad_units(self):
        for thing in ODD_VALUES + ([(), (), ()], ((), ()), (((),), (), ())):
            with self.assertRaises(BadUnit) as caught:
                first_fault(thing)
            self.assertIs(caught.exception.thing, thing)
            self.assertIs(is_taken(thing), False)

    def test_bent_units(self):
        rng = random.Random(11)
        words = {}
        for seed in range(500):
            unit = UnitMaker(seed, seed % 2 == 0).unit()
            for _ in range(2):
                self.judged(bent(unit, rng), {})
                self.judged(self.with_other_rows(unit, rng), words)
        self.assertEqual(set(words), {None, "shape", "register", "call", "level", "twice", "unset"})

    def judged(self, thing, words):
        if not slow_is_unit(thing):
            self.assertIs(is_taken(thing), False)
            return
        faults = slow_unit_faults(thing)
        self.assertEqual(first_fault(thing), faults[0] if faults else None)
        self.assertIs(is_taken(thing), not faults)
        words[faults[0][2] if faults else None] = True

    def with_other_rows(self, unit, rng):
        f = rng.randrange(len(unit[1]))
        rows = unit[1][f][4]
        at = rng.randrange(len(rows))
        more = rows_of("move l0 s0; move s0 l1; each l0 l1 l1; each l0 l1 l2; end; call 0 () () (s0); when s1; zero; word l2 0; cut s0 l2")
        choice = rng.randrange(4)
        if choice == 0:
            rows = rows[:at] + rows[at + 1:]
        elif choice == 1:
            rows = rows[:at] + (rng.choice(more),) + rows[at:]
        elif choice == 2:
            rows = rows[:at] + (rng.choice(more),) + rows[at + 1:]
        else:
            regs = [path for path in sub_paths(rows) if path and self.is_reg(rows, path)]
            if regs:
                rows = replaced(rows, rng.choice(regs), (rng.choice("ls"), rng.randrange(6)))
        return replaced(unit, (1, f, 4), rows)

    def is_reg(self, rows, path):
        for at in path:
            rows = rows[at]
        return isinstance(rows, tuple) and len(rows) == 2 and rows[0] in ("l", "s")

    def test_many_rounds_and_branches_within_one_another(self):
        for opening, closing in ((rows_of("when s0"), rows_of("zero; one; end")), (rows_of("when s0; zero"), rows_of("one; end")),
                                 (rows_of("each l0 l1 l2"), rows_of("end")), (rows_of("each l1 l1 l2"), rows_of("end"))):
            rows = rows_of("word l1 0") + opening * 250 + closing * 250 + rows_of("give (s0)")
            self.assertIs(is_taken(unit_of_codes((1, 1, 3, 1, rows))), True)
            self.assertEqual(first_fault(unit_of_codes((1, 1, 3, 1, opening * 600)))[1:], (len(opening) * 600, "shape"))

    def test_great_numbers(self):
        many = 10 ** 39
        unit = unit_of_codes((many, many, many, many, (("move", l(many - 1), l(5)), ("give", (s(many - 1), l(many - 1))))))
        self.assertIs(is_taken(unit), True)
        unit = unit_of_codes((3, many, many, many, (("move", l(many - 1), l(5)), ("give", (s(many - 1), l(many - 1))))))
        self.assertEqual(first_fault(unit), (0, 0, "unset"))
        unit = unit_of_codes((3, many, many, many, (("give", (s(many),)),)))
        self.assertEqual(first_fault(unit), (0, 0, "register"))
