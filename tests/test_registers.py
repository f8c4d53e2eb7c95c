"""Needed registers [9.3] and sharing [9.4]."""

import random
import unittest

from quicktongue import machine
from quicktongue.code import first_fault, is_taken
from quicktongue.codebounds import code_bounds
from quicktongue.compiler import plain_unit
from quicktongue.errors import BadNumber, BadSharing, BadUnit
from quicktongue.polys import poly_value
from quicktongue.registers import judge_sharing, needed_behind_row, shared, sharing_holds, sharing_of
from quicktongue.texts import read
from tests.slowcode import slow_clashes, slow_needed_behind
from tests.support import ODD_VALUES, ProgramMaker, bent
from tests.unitmaker import UnitMaker, code_of, inputs, l, s, unit_of_codes


def regs_of(text):
    return tuple((part[0], int(part[1:])) for part in text.split())


class NeededTest(unittest.TestCase):
    def needed(self, text, *told, leads=1, softs=1, needs=()):
        """These registers are needed behind the rows; None stands for those that are passed over."""
        unit = unit_of_codes(code_of(leads, softs, 9, 9, text), needs=needs)
        self.assertIsNone(first_fault(unit))
        self.assertEqual(len(told), len(unit[1][0][4]))
        for row, regs in enumerate(told):
            if regs is None:
                with self.assertRaises(BadNumber) as caught:
                    needed_behind_row(unit, 0, row)
                self.assertEqual(caught.exception.thing, row)
            else:
                self.assertEqual(needed_behind_row(unit, 0, row), regs_of(regs), (text, row))
                self.assertEqual(slow_needed_behind(unit[1][0], row), regs_of(regs))

    def test_rows_one_after_the_other(self):
        self.needed("word s1 0; move s2 s1; put s1 l0 1; cut s1 s0; give (s2 s1)", "l0 s0 s1", "l0 s0 s2", "s0 s2", "s1 s2", "")
        self.needed("move s0 s0; move s0 s0; give (l0)", "l0 s0", "l0", "")
        self.needed("word l1 0; word l1 1; give (l1 l0)", "l0", "l0 l1", "")

    def test_calls(self):
        self.needed("call 0 (l0) (s0) (s1 s2); call 0 (l0) (s1) (s1 s0); give (s0)", "l0 s1", "s0", "", needs=(("n", 1, 1, 2),))

    def test_behind_give_nothing(self):
        self.needed("give (s0 l0)", "")

    def test_branches(self):
        self.needed("when s0; move s1 s2; zero; move s1 s3; one; move s1 s4; end; give (s1)",
                    "s2 s3 s4", "s1", None, "s1", None, "s1", None, "")
        self.needed("when s0; zero; word s1 0; one; word s2 0; end; give (s1 s2)",
                    "s1 s2", None, "s1 s2", None, "s1 s2", None, "")
        self.needed("when s0; zero; one; end; give (s1)", "s1", None, None, None, "")
        self.needed("when s0; word s1 0; zero; word s1 0; one; word s1 0; end; give (s1)", "", "s1", None, "s1", None, "s1", None, "")

    def test_a_round(self):
        self.needed("each l0 l1 l2; put s1 s0 1; move s0 s1; end; give (s0)", "s0", "s1", "s0", None, "")
        self.needed("each l0 l1 l2; word s0 1; end; give (s0)", "s0", "s0", None, "")
        self.needed("each l0 l1 l2; move s0 s1; move s1 s2; end; give (s0)", "s0 s1 s2", "s0 s2", "s0 s1 s2", None, "")

    def test_an_empty_round(self):
        self.needed("each l0 l1 l2; end; give (s0)", "s0", None, "")
        self.needed("word s1 0; each l0 l1 l2; end; give (s1 l0)", "l0 s1", "l0 s1", None, "")

    def test_rest_and_letter_are_written_by_a_turn_begun_at_the_end(self):
        self.needed("each l0 l1 l2; move s0 l1; move s1 l2; end; give (s0)", "l1 l2 s0", "l2 s0", "s0", None, "")
        self.needed("each l0 l1 l2; move s1 l2; move s0 s1; end; give (s0)", "l2 s0", "s1", "s0", None, "")

    def test_an_each_writes_rest_and_letter(self):
        self.needed("word l1 0; word l2 1; each l0 l1 l2; move s0 l1; end; give (s0)", "l0 s0", "l0 s0", "l1 s0", "s0", None, "")

    def test_rest_and_letter_written_again_in_the_round(self):
        self.needed("each l0 l1 l2; word l1 0; move s0 l1; end; give (s0)", "s0", "l1", "s0", None, "")

    def test_a_leader_that_is_needed_again(self):
        self.needed("each l0 l1 l2; each l0 l3 l4; put s0 s0 1; end; end; give (s0)", "l0 s0", "l0 s0", "l0 s0", None, None, "")
        self.needed("each l0 l1 l2; each l1 l3 l4; put s0 s0 1; end; end; give (s0)", "l1 s0", "s0", "s0", None, None, "")

    def test_rounds_that_end_together(self):
        self.needed("each l0 l1 l2; move s0 l1; each l0 l3 l4; move s1 l3; end; end; give (s0)",
                    "l0 l1 s0", "l0 s0", "l0 l3 s0", "l0 s0", None, None, "")
        self.needed("each l0 l1 l2; when l2; move s0 s1; zero; one; move s1 l1; end; end; give (s0)",
                    "l1 l2 s0 s1", "l1 s0 s1", "s0 s1", None, None, "s0 s1", None, None, "")

    def test_a_round_in_a_branch(self):
        self.needed("when s0; each l0 l1 l2; move s1 s2; end; zero; one; end; give (s1)",
                    "l0 s1 s2", "s1 s2", "s1 s2", None, None, None, None, "")

    def test_many_units(self):
        rows = 0
        for seed in range(200):
            unit = UnitMaker(seed, seed % 2 == 0).unit()
            for f, code in enumerate(unit[1]):
                for row, kind in enumerate(row[0] for row in code[4]):
                    if kind not in ("zero", "one", "end"):
                        rows += 1
                        self.assertEqual(needed_behind_row(unit, f, row), slow_needed_behind(code, row))
        self.assertGreater(rows, 2000)

    def test_numbers(self):
        unit = unit_of_codes(code_of(1, 0, 3, 1, "each l0 l1 l2; end; give (s0)"))
        for f in ODD_VALUES + (1, -1, "0", True, False):
            if type(f) is not int or f != 0:
                self.bad(unit, f, None, f)
        for row in ODD_VALUES + (1, 3, -1, "0", True, False):
            if type(row) is not int or row != 0:
                self.bad(unit, 0, row, row)
        self.assertEqual(needed_behind_row(unit, 0, 2), ())

    def bad(self, unit, f, row, thing):
        with self.assertRaises(BadNumber) as caught:
            needed_behind_row(unit, f, row)
        self.assertIs(caught.exception.thing, thing)

    def test_at_the_limits(self):
        rows = ["each l%d l%d l%d" % (k, 2 * k + 1, 2 * k + 2) for k in range(5)]
        rows += ["move s%d s%d" % (k % 39, k % 39 + 1) for k in range(109)] + ["end"] * 5 + ["give (s0)"]
        unit = unit_of_codes(*[code_of(1, 1, 40, 40, "; ".join(rows))] * 12)
        every = tuple(s(k) for k in range(40))
        self.assertEqual(needed_behind_row(unit, 11, 0)[-40:], every)
        self.assertEqual(needed_behind_row(unit, 11, 40), slow_needed_behind(unit[1][11], 40))
        self.assertEqual(judge_sharing(unit, sharing_of(unit)), ("apart",))


class SharingTest(unittest.TestCase):
    NEEDS = (("n", 1, 0, 2),)

    def judged(self, text, sharing, *clashes, arguments=(1, 1), wide=(4, 4), needs=()):
        """The sharing of such rows has these clashes, told as (row, r, r2); with none registers are apart."""
        unit = unit_of_codes(code_of(*arguments, *wide, text), needs=needs)
        told = {("clash", 0, row) + regs_of(regs) for row, regs in clashes} or {("apart",)}
        self.assertEqual(slow_clashes(unit, (sharing,)) or {("apart",)}, told)
        self.assertIn(judge_sharing(unit, (sharing,)), told)
        every = [l(k) for k in range(wide[0])] + [s(k) for k in range(wide[1])]
        for row in range(-2, len(unit[1][0][4])):
            for r in every:
                for r2 in every:
                    thing = ("clash", 0, row, r, r2)
                    self.assertIs(sharing_holds(unit, (sharing,), thing), thing in told)
        self.assertIs(sharing_holds(unit, (sharing,), ("apart",)), not clashes)
        if clashes:
            with self.assertRaises(BadSharing) as caught:
                shared(unit, (sharing,))
            self.assertEqual(caught.exception.thing, (sharing,))
        else:
            self.assertIs(is_taken(shared(unit, (sharing,))), True)

    def test_apart(self):
        text = "word s1 0; put s2 s1 1; cut s3 s2; give (s3)"
        for softs in ((0, 1, 2, 3), (0, 1, 1, 1), (0, 0, 0, 0), (0, 7, 0, 7), (0, 10 ** 20, 5, 5)):
            self.judged(text, ((0, 1, 2, 3), softs))
        self.judged("give (s0)", ((0, 0, 0, 0), (0, 0, 0, 0)))

    def test_what_is_needed_behind_a_row(self):
        text = "word s1 0; word s2 1; give (s1 s2)"
        self.judged(text, ((0, 1, 2, 3), (0, 1, 1, 3)), (1, "s2 s1"))
        self.judged(text, ((0, 1, 2, 3), (0, 0, 1, 1)))
        self.judged("word s1 0; give (s0 s1)", ((0, 1, 2, 3), (0, 0, 2, 3)), (0, "s1 s0"))
        self.judged("word l1 0; give (l0 l1)", ((0, 0, 2, 3), (0, 1, 2, 3)), (0, "l1 l0"))
        self.judged("word l1 0; give (l1)", ((0, 0, 2, 3), (0, 1, 2, 3)))

    def test_a_row_that_writes_what_is_not_needed(self):
        self.judged("word s1 0; word s2 1; give (s2)", ((0, 1, 2, 3), (0, 1, 1, 3)))
        self.judged("word s1 0; word s2 1; give (s1)", ((0, 1, 2, 3), (0, 1, 1, 3)), (1, "s2 s1"))

    def test_moves_between_registers_that_one_stands_for(self):
        self.judged("move s1 s0; give (s1)", ((0, 1, 2, 3), (0, 0, 2, 3)))
        self.judged("move s1 s0; give (s1 s0)", ((0, 1, 2, 3), (0, 0, 2, 3)), (0, "s1 s0"))

    def test_registers_that_one_row_writes(self):
        self.judged("call 0 (l0) () (s1 s2); give (s1)", ((0, 1, 2, 3), (0, 1, 1, 3)), (0, "s1 s2"), (0, "s2 s1"), needs=self.NEEDS)
        self.judged("call 0 (l0) () (s1 l1); give (s1)", ((0, 1, 2, 3), (0, 1, 1, 3)), needs=self.NEEDS)
        self.judged("each l0 l1 l2; end; give (s0)", ((0, 1, 1, 3), (0, 1, 2, 3)), (0, "l1 l2"), (0, "l2 l1"))

    def test_a_leader_with_rest_or_letter(self):
        self.judged("each l0 l1 l2; put s0 s0 1; end; give (s0)", ((0, 0, 1, 3), (0, 1, 2, 3)))
        self.judged("each l0 l1 l2; put s0 s0 1; end; give (s0)", ((0, 1, 0, 3), (0, 1, 2, 3)))
        self.judged("each l0 l1 l2; put s0 s0 1; end; give (l0)", ((0, 0, 1, 3), (0, 1, 2, 3)), (0, "l1 l0"))

    def test_rounds(self):
        text = "word s1 0; each l0 l1 l2; move s2 l1; end; give (s1)"
        self.judged(text, ((0, 1, 2, 3), (0, 1, 1, 3)), (2, "s2 s1"))
        self.judged("each l0 l1 l2; move s2 l1; move s3 l2; end; give (s2)", ((0, 1, 2, 3), (0, 1, 2, 2)), (2, "s3 s2"))

    def test_arguments(self):
        self.judged("give (s0 s1)", ((0, 1, 2, 3), (0, 0, 2, 3)), (-1, "s0 s1"), (-1, "s1 s0"))
        self.judged("give (s2 s3)", ((0, 1, 2, 3), (0, 0, 2, 2)))
        self.judged("word s1 0; give (s0 s1)", ((0, 1, 2, 3), (0, 0, 2, 3)), (0, "s1 s0"))
        self.judged("when l0; word s1 0; zero; one; end; give (s1)", ((0, 1, 2, 3), (0, 0, 2, 3)), (-1, "s0 s1"), (-1, "s1 s0"))
        self.judged("give (s1)", ((0, 1, 2, 3), (0, 0, 2, 3)), (-1, "s0 s1"), (-1, "s1 s0"))
        self.judged("give (s2)", ((0, 1), (0, 1, 1, 0)), (-1, "s1 s2"), (-1, "s2 s1"), arguments=(1, 2), wide=(2, 4))
        self.judged("give (s1 l0)", ((0, 0), (1, 1)), arguments=(1, 0), wide=(2, 2))

    def test_soft_registers_that_are_empty_at_the_beginning(self):
        self.judged("put s1 s1 0; give (s2)", ((0, 1, 2, 3), (0, 1, 1, 3)), (0, "s1 s2"))
        self.judged("put s1 s1 0; give (s1)", ((0, 1, 2, 3), (0, 1, 1, 3)))

    def test_certificates_with_a_part_otherwise(self):
        unit = unit_of_codes(code_of(1, 1, 4, 4, "word s1 0; word s2 1; give (s1 s2)"))
        sharing = (((0, 1, 2, 3), (0, 1, 1, 3)),)
        right = ("clash", 0, 1, s(2), s(1))
        self.assertIs(sharing_holds(unit, sharing, right), True)
        for thing in ODD_VALUES + (
                list(right), right[:4], right + ((),), ("clash", False, 1, s(2), s(1)), ("clash", 0, True, s(2), s(1)),
                ("clash", 0, 1, ["s", 2], s(1)), ("clash", 0, 1, ("s", 2), ("s", True)), ("apart", 0, 1, s(2), s(1)),
                ("clash", 0, 1, s(1), s(2)), ("clash", 0, 1, s(2), l(1)), ("clash", 0, 1, l(2), l(1)), ("clash", 0, 1, s(2), s(2)),
                ("clash", 0, -1, s(2), s(1)), ("clash", 1, 1, s(2), s(1)), ("clash", 0, 0, s(2), s(1)), ("apart",), (right,)):
            self.assertIs(sharing_holds(unit, sharing, thing), False, thing)
        for thing in ODD_VALUES + (("apart", ()), ["apart"], (("apart",),), "apart", right, ()):
            self.assertIs(sharing_holds(unit, (((0, 1, 2, 3), (0, 1, 2, 3)),), thing), False)
        self.assertIs(sharing_holds(((), (), ()), (), ("apart",)), True)

    def test_what_is_no_sharing(self):
        unit = unit_of_codes(code_of(2, 1, 3, 2, "give (s0)"), code_of(0, 0, 1, 0, "word l0 0; give (l0)"))
        right = (((0, 1, 2), (0, 1)), ((0,), ()))
        self.assertEqual(judge_sharing(unit, right), ("apart",))
        first, second = right
        for thing in ODD_VALUES + (
                list(right), (first,), (second, first), right + (second,), (first, first), (list(first), second), (first, None),
                (first, ((0,),)), (first, ((0,), (), ())), (first, ((0,), (0,))), (first, ((), ())), (first, ((0, 0), ())),
                (((0, 1), (0, 1)), second), (((0, 1, 2, 3), (0, 1)), second), (((1, 0, 2), (0, 1)), second),
                (((0, 0, 2), (0, 1)), second), (((0, 2, 2), (0, 1)), second), (((0, 1, -1), (0, 1)), second),
                (((0, 1, True), (0, 1)), second), (((False, 1, 2), (0, 1)), second), (((0, True, 2), (0, 1)), second),
                (((0, 1, "2"), (0, 1)), second), (((0, 1, None), (0, 1)), second), (([0, 1, 2], (0, 1)), second),
                (((0, 1, 2), [0, 1]), second), (((0, 1, 2), (1, 1)), second), (((0, 1, 2), (1, 0)), second),
                (((0, 1, 2), (0,)), second), (((0, 1, 2), (0, 1.0)), second), (first, ((False,), ())), (first, ((None,), ()))):
            for call in (judge_sharing, shared, lambda one, other: sharing_holds(one, other, ("apart",))):
                with self.assertRaises(BadSharing) as caught:
                    call(unit, thing)
                self.assertIs(caught.exception.thing, thing)

    def test_bent_sharings(self):
        rng = random.Random(3)
        for seed in range(200):
            unit = UnitMaker(seed, seed % 2 == 0).unit()
            thing = bent(sharing_of(unit), rng)
            if self.is_sharing(unit, thing):
                self.assertIn(judge_sharing(unit, thing), slow_clashes(unit, thing) or {("apart",)})
            else:
                with self.assertRaises(BadSharing):
                    judge_sharing(unit, thing)

    def is_sharing(self, unit, thing):
        if type(thing) is not tuple or len(thing) != len(unit[1]):
            return False
        for code, pair in zip(unit[1], thing):
            if type(pair) is not tuple or len(pair) != 2:
                return False
            for numbers, many, wide in ((pair[0], code[0], code[2]), (pair[1], code[1], code[3])):
                if type(numbers) is not tuple or len(numbers) != wide:
                    return False
                if any(type(number) is not int or number < 0 for number in numbers) or list(numbers[:many]) != list(range(many)):
                    return False
        return True

    def test_bad_units(self):
        for thing in ODD_VALUES + (unit_of_codes(code_of(0, 0, 1, 1, "give (l0)")), [(), (), ()]):
            for call in (sharing_of, lambda one: judge_sharing(one, None), lambda one: sharing_holds(one, None, None),
                         lambda one: shared(one, None), lambda one: needed_behind_row(one, None, None)):
                with self.assertRaises(BadUnit) as caught:
                    call(thing)
                self.assertIs(caught.exception.thing, thing)


class SharedTest(unittest.TestCase):
    def test_rows_and_numbers_of_registers(self):
        needs = (("n", 1, 1, 2),)
        text = "word l1 0; move l3 l1; each l3 l2 l4; when l4; put s2 s1 1; zero; cut s2 s2; one; end; end; call 0 (l0) (s2) (s3 s4);" \
               "give (s0 l1 s3)"
        unit = (needs, (code_of(1, 1, 6, 5, text),), (("f", 0),))
        sharing = (((0, 5, 2, 3, 1, 9), (0, 4, 6, 2, 3)),)
        told = "word l5 0; move l3 l5; each l3 l2 l1; when l1; put s6 s4 1; zero; cut s6 s6; one; end; end; call 0 (l0) (s6) (s2 s3);" \
               "give (s0 l5 s2)"
        self.assertEqual(shared(unit, sharing), (needs, (code_of(1, 1, 6, 7, told),), (("f", 0),)))

    def test_no_more_registers_than_are_named_or_arguments(self):
        unit = unit_of_codes(code_of(2, 3, 9, 9, "give (l0)"), code_of(0, 0, 9, 9, "word l7 0; give (s8)"))
        sharing = ((tuple(range(9)), tuple(range(9))), ((5,) * 9, (2,) * 9))
        self.assertEqual([code[:4] for code in shared(unit, sharing)[1]], [(2, 3, 2, 3), (0, 0, 6, 3)])

    def test_units_with_needs_and_the_unit_without_codes(self):
        self.assertEqual(shared(((), (), ()), ()), ((), (), ()))
        self.assertEqual(sharing_of(((), (), ())), ())
        needing = ((("n", 0, 0, 1),), (), ())
        self.assertEqual(shared(needing, ()), needing)

    def test_sharing_of_an_example(self):
        unit = plain_unit(read("fun add(x; y)\n  each x as r, a\n    set y = y + 1\n  give y"))
        found = sharing_of(unit)
        self.assertEqual(judge_sharing(unit, found), ("apart",))
        self.assertEqual(shared(unit, found)[1][0][3], 1)

    def test_sharings_of_many_units(self):
        saved = 0
        for seed in range(250):
            unit = UnitMaker(seed, seed % 3 > 0).unit()
            sharing = sharing_of(unit)
            self.assertEqual(judge_sharing(unit, sharing), ("apart",))
            self.assertEqual(slow_clashes(unit, sharing), set())
            other = shared(unit, sharing)
            self.assertIs(is_taken(other), True)
            for code, new in zip(unit[1], other[1]):
                self.assertTrue(new[:2] == code[:2] and new[2] <= code[2] and new[3] <= code[3])
                saved += code[2] + code[3] - new[2] - new[3]
            if not unit[0]:
                self.alike(unit, other, random.Random(seed))
        self.assertGreater(saved, 500)

    def test_any_sharing_by_which_registers_are_apart(self):
        apart = 0
        for seed in range(250):
            rng = random.Random(seed)
            unit = UnitMaker(seed).unit()
            sharing = tuple(tuple(tuple(range(many)) + tuple(rng.randrange(wide + 2) for _ in range(wide - many))
                                  for many, wide in ((code[0], code[2]), (code[1], code[3]))) for code in unit[1])
            clashes = slow_clashes(unit, sharing)
            self.assertIn(judge_sharing(unit, sharing), clashes or {("apart",)})
            for clash in clashes:
                self.assertIs(sharing_holds(unit, sharing, clash), True)
            self.assertIs(sharing_holds(unit, sharing, ("apart",)), not clashes)
            if not clashes:
                apart += 1
                self.alike(unit, shared(unit, sharing), rng)
        self.assertGreater(apart, 50)

    def alike(self, unit, other, rng):
        """Both units have the same bounds, outcomes and steps."""
        found = code_bounds(unit)
        self.assertEqual(code_bounds(other), found)
        for f, code in enumerate(unit[1]):
            arguments = inputs(rng, code, 4)
            if poly_value(code[0], found[f][1], tuple(len(word) for word in arguments[0])) <= 1500:
                self.assertEqual(machine.run(other, f, *arguments), machine.run(unit, f, *arguments))

    def test_plain_units(self):
        for seed in range(120):
            rng = random.Random(seed)
            unit = plain_unit(ProgramMaker(seed).program())
            other = shared(unit, sharing_of(unit))
            self.assertIsNone(first_fault(other))
            self.alike(unit, other, rng)
