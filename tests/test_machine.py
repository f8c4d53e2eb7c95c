"""Steps and runs of the machine [8.2, 8.3]."""

import random
import unittest

from quicktongue.codebounds import code_bounds
from quicktongue.machine import beginning, is_standing, rest_of_run, run, step
from quicktongue.polys import poly_value
from tests.slowcode import slow_machine_run
from tests.unitmaker import UnitMaker, code_of, inputs, unit_of_codes


def leads(text):
    """Words with blanks between them: `-` is the empty word, `.` is None."""
    return tuple({"-": "", ".": None}.get(part, part) for part in text.split())


class StepTest(unittest.TestCase):
    def moves(self, text, *told, before=()):
        """The rows go from each of these standings, told as (row, leads, softs, rounds), to the next one.

        Between two standings stands the count of the step; the last one may be the outcomes.
        """
        frame = [len(before)]
        unit = unit_of_codes(*before, code_of(told[0][4], told[0][5], len(leads(told[0][1])), len(leads(told[0][2])), text))
        for at in range(0, len(told) - 2, 2):
            first = self.standing(frame[0], told[at])
            second = told[at + 2]
            second = ("ended", leads(second)) if isinstance(second, str) else self.standing(frame[0], second)
            self.assertEqual(step(unit, first), (second, told[at + 1]), text)
            self.assertIs(is_standing(unit, second), True)

    def standing(self, f, told):
        row, first, second, rounds = told[:4]
        return ((f, row, leads(first), leads(second), leads(rounds)),)

    def test_rows_that_write(self):
        for row, words, softs in (
                ("word l1 011", "01 011", "1 -"), ("word s1 011", "01 .", "1 011"), ("word s0 -", "01 .", "- -"),
                ("move l1 l0", "01 01", "1 -"), ("move s1 l0", "01 .", "1 01"), ("move s1 s0", "01 .", "1 1"),
                ("move s0 s1", "01 .", "- -"), ("put l1 l0 1", "01 011", "1 -"), ("put l0 l0 0", "010 .", "1 -"),
                ("put s1 s0 0", "01 .", "1 10"), ("put s1 s1 1", "01 .", "1 1"), ("put s0 l0 0", "01 .", "010 -"),
                ("cut l1 l0", "01 0", "1 -"), ("cut s1 l0", "01 .", "1 0"), ("cut s0 s0", "01 .", "- -"), ("cut s0 s1", "01 .", "- -")):
            self.moves(row + "; give (s0)", (0, "01 .", "1 -", "", 1, 1), 1, (1, words, softs, ""))

    def test_give(self):
        self.moves("give (s0 l0 s0)", (0, "01 .", "1 -", "", 1, 1), 1, "1 01 1")
        self.moves("give (s1)", (0, "01 .", "1 -", "", 1, 1), 1, "-")

    def test_when(self):
        text = "when s0; word s1 0; zero; word s1 1; one; word s1 00; end; give (s0)"
        self.moves(text, (0, "01", "- -", "", 1, 1), 1, (1, "01", "- -", ""), 1, (7, "01", "- 0", ""), 1, "-")
        self.moves(text, (0, "01", "10 -", "", 1, 1), 1, (3, "01", "10 -", ""), 1, (7, "01", "10 1", ""), 1, "10")
        self.moves(text, (0, "01", "01 -", "", 1, 1), 1, (5, "01", "01 -", ""), 1, (7, "01", "01 00", ""), 1, "01")

    def test_when_with_empty_branches(self):
        text = "when l0; zero; word s0 1; one; end; word s0 0; give (s0)"
        self.moves(text, (0, "-", "1", "", 1, 1), 1, (5, "-", "1", ""))
        self.moves(text, (0, "0", "1", "", 1, 1), 1, (2, "0", "1", ""), 1, (5, "0", "1", ""))
        self.moves(text, (0, "1", "1", "", 1, 1), 1, (5, "1", "1", ""))
        self.moves("when l0; zero; one; end; give (s0)", (0, "0", "1", "", 1, 1), 1, (4, "0", "1", ""), 1, "1")

    def test_branches_that_end_together(self):
        text = "when s0; zero; one; when s0; zero; one; when s0; zero; one; word s1 1; end; end; end; give (s1)"
        self.moves(text, (9, "", "1 -", "", 0, 1), 1, (13, "", "1 1", ""))
        self.moves(text, (6, "", "- -", "", 0, 1), 1, (13, "", "- -", ""))

    def test_registers_that_are_not_set_any_more_behind_branches(self):
        text = "when s0; word l1 0; word l2 0; zero; word l1 1; word l2 1; one; word l1 -; end; give (l1)"
        self.moves(text, (0, "01 . .", "-", "", 1, 1), 1, (1, "01 . .", "-", ""), 1, (2, "01 0 .", "-", ""), 1, (9, "01 0 .", "-", ""), 1, "0")

    def test_each(self):
        text = "each l0 l1 l2; put s0 s0 1; end; give (s0)"
        self.moves(text, (0, "011 . .", "-", "", 1, 1), 2, (1, "011 01 1", "-", "01"), 2, (1, "011 0 1", "1", "0"), 2,
                   (1, "011 - 0", "11", "-"), 1, (3, "011 . .", "111", ""), 1, "111")
        self.moves(text, (0, "- . .", "01", "", 1, 1), 1, (3, "- . .", "01", ""))

    def test_an_empty_round(self):
        text = "each l0 l1 l2; end; give (l0)"
        for word in ("-", "0", "0110", "1" * 40):
            self.moves(text, (0, word + " . .", "1", "", 1, 1), 1 + len(word.strip("-")), (2, word + " . .", "1", ""), 1, word)

    def test_what_rounds_write_is_not_set_before_a_turn_and_behind_the_end(self):
        text = "word l3 0; word l4 1; each l0 l1 l2; word s0 1; word l3 0; end; give (l4)"
        self.moves(text, (2, "01 . . 0 1", "-", "", 1, 1), 2, (3, "01 0 1 . 1", "-", "0"), 1, (4, "01 0 1 . 1", "1", "0"), 2,
                   (3, "01 - 0 . 1", "1", "-"), 1, (4, "01 - 0 . 1", "1", "-"), 1, (6, "01 . . . 1", "1", ""))

    def test_rest_and_letter_that_were_set_before(self):
        self.moves("word l1 0; each l0 l1 l2; end; give (l0)", (1, "11 0 .", "-", "", 1, 1), 3, (3, "11 . .", "-", ""))

    def test_a_round_that_writes_its_leader_rest_or_letter(self):
        self.moves("each l0 l0 l1; put s0 s0 1; end; give (s0)", (0, "01 .", "-", "", 1, 1), 2, (1, "0 1", "-", "0"), 2,
                   (1, "- 0", "1", "-"), 1, (3, ". .", "11", ""))
        text = "each l0 l1 l2; word l1 000; word l2 -; word l0 1; end; give (s0)"
        self.moves(text, (0, "01 . .", "-", "", 1, 1), 2, (1, ". 0 1", "-", "0"), 1, (2, ". 000 1", "-", "0"), 1,
                   (3, ". 000 -", "-", "0"), 2, (1, ". - 0", "-", "-"), 1, (2, ". 000 0", "-", "-"), 1,
                   (3, ". 000 -", "-", "-"), 1, (5, ". . .", "-", ""))

    def test_rounds_that_end_together_with_others(self):
        text = "each l0 l1 l2; each l1 l3 l4; put s0 s0 1; end; end; give (s0)"
        self.moves(text, (0, "11 . . . .", "-", "", 1, 1), 2, (1, "11 1 1 . .", "-", "1"), 2, (2, "11 1 1 - 1", "-", "1 -"), 2,
                   (1, "11 - 1 . .", "1", "-"), 1, (5, "11 . . . .", "1", ""), 1, "1")
        text = "each l0 l1 l2; each l0 l3 l4; each l0 l5 l6; put s0 s0 1; end; end; end; give (s0)"
        self.moves(text, (3, "11 - 0 - 1 - 1", "-", "- - -", 1, 1), 1, (7, "11 . . . . . .", "1", ""))
        self.moves(text, (3, "11 - 0 - 1 - 1", "-", "1 - -", 1, 1), 2, (1, "11 - 1 . . . .", "1", "-"))
        self.moves(text, (3, "11 - 0 - 1 - 1", "-", "1 00 -", 1, 1), 2, (2, "11 - 0 0 0 . .", "1", "1 0"))

    def test_rounds_that_end_together_with_branches(self):
        text = "each l0 l1 l2; when l2; zero; put s0 s0 0; one; each l1 l3 l4; put s0 s0 1; end; end; end; give (s0)"
        self.moves(text, (0, "011 . . . .", "-", "", 1, 1), 2, (1, "011 01 1 . .", "-", "01"), 1, (5, "011 01 1 . .", "-", "01"), 2,
                   (6, "011 01 1 0 1", "-", "01 0"), 2, (6, "011 01 1 - 0", "1", "01 -"), 2, (1, "011 0 1 . .", "11", "0"), 1,
                   (5, "011 0 1 . .", "11", "0"), 2, (6, "011 0 1 - 0", "11", "0 -"), 2, (1, "011 - 0 . .", "111", "-"), 1,
                   (3, "011 - 0 . .", "111", "-"), 1, (10, "011 . . . .", "1110", ""), 1, "1110")

    def test_empty_rounds_within_others(self):
        text = "each l0 l1 l2; each l0 l3 l4; end; end; give (s0)"
        self.moves(text, (0, "01 . . . .", "-", "", 1, 1), 2, (1, "01 0 1 . .", "-", "0"), 4, (1, "01 - 0 . .", "-", "-"), 3,
                   (4, "01 . . . .", "-", ""))

    def test_an_each_as_the_first_row_of_a_branch(self):
        text = "when s0; zero; each l0 l1 l2; end; one; end; give (s0)"
        self.moves(text, (0, "11 . .", "0", "", 1, 1), 1, (2, "11 . .", "0", ""), 3, (6, "11 . .", "0", ""))

    def test_an_ended_standing(self):
        unit = unit_of_codes(code_of(0, 0, 0, 1, "give (s0)"))
        for words in (("0",), ("", "1", "01")):
            self.assertIsNone(step(unit, ("ended", words)))
            self.assertEqual(rest_of_run(unit, ("ended", words)), (words, 0))
            self.assertIs(is_standing(unit, ("ended", words)), True)


class CallTest(unittest.TestCase):
    INNER = code_of(1, 2, 3, 3, "put s0 s0 1; give (s0 l0 s2)")

    def test_calls_and_gives_with_several_outs(self):
        text = "word l1 00; call 0 (l0) (s1 s0) (s0 s1 s2); give (s0)"
        unit = unit_of_codes(self.INNER, code_of(1, 1, 2, 3, text))
        out = (1, 1, ("01", "00"), ("1", "0", "11"), ())
        begun = (out, (0, 0, ("01", None, None), ("0", "1", ""), ()))
        self.assertEqual(step(unit, (out,)), (begun, 1))
        self.assertEqual(step(unit, begun), ((out, (0, 1, ("01", None, None), ("01", "1", ""), ())), 1))
        last = (out, (0, 1, ("01", None, None), ("01", "1", ""), ()))
        self.assertEqual(step(unit, last), (((1, 2, ("01", "00"), ("01", "01", ""), ()),), 1))

    def test_leading_outs(self):
        text = "word l1 00; call 0 (l1) (l0 l1) (l1 s0 l2); give (l2)"
        unit = unit_of_codes(self.INNER, code_of(1, 1, 4, 1, text))
        out = (1, 1, ("01", "00", None, None), ("1",), ())
        begun = (out, (0, 0, ("00", None, None), ("01", "00", ""), ()))
        self.assertEqual(step(unit, (out,)), (begun, 1))
        last = (out, (0, 1, ("00", None, None), ("0111", "00", "1"), ()))
        self.assertEqual(step(unit, last), (((1, 2, ("01", "0111", "1", None), ("00",), ()),), 1))

    def test_a_call_at_the_end_of_a_round(self):
        text = "each l0 l1 l2; call 0 (l1) (s0 s0) (s0 s1 s2); end; give (s0)"
        unit = unit_of_codes(self.INNER, code_of(1, 1, 3, 3, text))
        out = (1, 1, ("01", "0", "1"), ("1", "0", ""), ("0",))
        last = (out, (0, 1, ("0", None, None), ("11", "1", ""), ()))
        self.assertEqual(step(unit, last), (((1, 1, ("01", "", "0"), ("11", "0", ""), ("",)),), 2))
        out = out[:4] + (("",),)
        self.assertEqual(step(unit, (out,) + last[1:]), (((1, 3, ("01", None, None), ("11", "0", ""), ()),), 1))

    def test_other_frames_stay_the_same(self):
        middle = code_of(1, 1, 1, 3, "call 0 (l0) (s0 s0) (s0 s1 s2); give (s0)")
        unit = unit_of_codes(self.INNER, middle, code_of(1, 0, 1, 1, "call 1 (l0) (l0) (s0); give (s0)"))
        first, second = (2, 0, ("01",), ("",), ()), (1, 0, ("01",), ("01", "", ""), ())
        begun = (first, second, (0, 0, ("01", None, None), ("01", "01", ""), ()))
        self.assertEqual(step(unit, (first,)), ((first, second), 1))
        self.assertEqual(step(unit, (first, second)), (begun, 1))
        self.assertEqual(run(unit, 2, ("01",), ()), (("011",), 6))

    def test_each_call_begins_with_empty_soft_registers(self):
        inner = code_of(0, 0, 1, 2, "put s0 s0 1; give (s0 s1)")
        unit = unit_of_codes(inner, code_of(0, 0, 0, 2, "call 0 () () (s0 s1); call 0 () () (s0 s1); give (s0 s1)"))
        self.assertEqual(run(unit, 1, (), ()), (("1", ""), 7))


class RunTest(unittest.TestCase):
    def test_runs(self):
        marks = code_of(1, 1, 3, 1, "each l0 l1 l2; put s0 s0 1; end; give (s0)")
        times = code_of(2, 0, 4, 1, "each l0 l2 l3; call 0 (l1) (s0) (s0); end; give (s0)")
        unit = unit_of_codes(marks, times)
        for many in (0, 1, 5, 40):
            self.assertEqual(run(unit, 0, ("0" * many,), ("10",)), (("10" + "1" * many,), 2 + 2 * many))
        self.assertEqual(run(unit, 1, ("01", "000"), ()), (("1" * 6,), 2 + 2 * (1 + 1 + 8)))

    def test_many_runs_against_the_slow_machine(self):
        runs = steps = 0
        for seed in range(300):
            rng = random.Random(seed)
            unit = UnitMaker(seed).unit()
            for f, code in enumerate(unit[1]):
                arguments = inputs(rng, code, 4)
                told = slow_machine_run(unit, f, *arguments, most=1000)
                if told is None:
                    continue
                runs += 1
                total = sum(count for _, count in told)
                self.assertEqual(run(unit, f, *arguments), (told[-1][0][1], total))
                if len(told) < 40:
                    steps += len(told) - 1
                    self.goes(unit, told, beginning(unit, f, *arguments))
        self.assertGreater(runs, 300)
        self.assertGreater(steps, 2000)

    def test_runs_end_within_the_bounds_of_the_code(self):
        runs = 0
        for seed in range(250):
            rng = random.Random(seed)
            unit = UnitMaker(seed).unit()
            for f, (code, (q, p)) in enumerate(zip(unit[1], code_bounds(unit))):
                first, second = inputs(rng, code, 4)
                lengths = tuple(len(word) for word in first)
                if poly_value(code[0], p, lengths) <= 4000:
                    runs += 1
                    outcomes, steps = run(unit, f, first, second)
                    self.assertLessEqual(steps, poly_value(code[0], p, lengths))
                    longest = max([len(word) for word in second], default=0) + poly_value(code[0], q, lengths)
                    self.assertLessEqual(max(len(word) for word in outcomes), longest)
        self.assertGreater(runs, 250)

    def goes(self, unit, told, standing):
        """The machine goes from standing to standing as told, and can be cut anywhere."""
        for at, (expected, count) in enumerate(told[:-1]):
            self.assertEqual(standing, expected)
            self.assertEqual(rest_of_run(unit, standing), (told[-1][0][1], sum(more for _, more in told[at:])))
            standing, found = step(unit, standing)
            self.assertEqual(found, count)
        self.assertEqual(standing, told[-1][0])

    def test_at_the_limits(self):
        text = "; ".join(["each l0 l%d l%d" % (2 * k + 1, 2 * k + 2) for k in range(2)] + ["put s%d s39 1" % k for k in range(114)][:1]
                         + ["end"] * 2 + ["put s0 s0 1"] * 114 + ["give (s0)"])
        unit = unit_of_codes(*[code_of(1, 40, 40, 40, text)] * 12)
        self.assertEqual(len(unit[1][0][4]), 120)
        outcomes, steps = run(unit, 11, ("01" * 20,), ("",) * 40)
        self.assertEqual((outcomes, steps), (("1" * 115,), 1 + 40 * (1 + 1 + 40 * 2) + 114 + 1))
        standing = beginning(unit, 11, ("01" * 20,), ("",) * 40)
        total = 0
        for _ in range(60):
            standing, count = step(unit, standing)
            total += count
        self.assertEqual(rest_of_run(unit, standing), (outcomes, steps - total))

    def test_chains_of_calls(self):
        codes = [code_of(1, 1, 3, 1, "each l0 l1 l2; put s0 s0 1; end; give (s0)")]
        for k in range(11):
            codes.append(code_of(1, 1, 1, 1, "; ".join(["call %d (l0) (s0) (s0)" % k] * (2 if k < 4 else 1) + ["give (s0)"])))
        unit = unit_of_codes(*codes)
        outcomes, steps = run(unit, 11, ("0" * 40,), ("",))
        self.assertEqual(outcomes, ("1" * 640,))
        self.assertEqual(steps, 16 * 82 + (3 * 15) + 2 * 7)
