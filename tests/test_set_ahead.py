"""Leading registers that are set ahead of rows [7.2]."""

import unittest

from quicktongue.code import set_ahead
from quicktongue.errors import BadNumber, BadUnit
from tests.slowcode import slow_ahead
from tests.support import ODD_VALUES
from tests.unitmaker import UnitMaker, code_of, l, unit_of_codes


class SetAheadTest(unittest.TestCase):
    def ahead(self, text, *told, leads=1, needs=()):
        """The numbers of the registers that are set ahead of each row, as figures in one string for each row."""
        unit = unit_of_codes(code_of(leads, 1, 9, 9, text), needs=needs)
        slow = slow_ahead(unit[1][0])
        self.assertEqual(len(told), len(unit[1][0][4]))
        for row, figures in enumerate(told):
            regs = tuple(l(int(figure)) for figure in figures)
            self.assertEqual(set_ahead(unit, 0, row), regs, (text, row))
            self.assertEqual(slow[row], set(regs))

    def test_before_the_first_row(self):
        self.ahead("give (s0)", "0")
        self.ahead("give (s0)", "", leads=0)
        self.ahead("give (s0)", "012", leads=3)

    def test_rows_that_write(self):
        self.ahead("word l1 0; move l2 l0; put l3 l1 0; cut l4 l4; give (s0)".replace("l4 l4", "l4 l3"),
                   "0", "01", "012", "0123", "01234")
        self.ahead("word s1 0; move s2 l0; put s3 s1 0; cut s4 s4; when s1; zero; one; end; give (s0)", *["0"] * 9)
        self.ahead("word l0 0; word l1 0; word l1 1; give (s0)", "0", "0", "01", "01")
        self.ahead("call 0 (l0) () (l2 s1 l5); call 0 (l0) () (s2 s1 s5); give (s0)", "0", "025", "025",
                   needs=(("n", 1, 0, 3),))

    def test_a_round(self):
        self.ahead("each l0 l1 l2; word l3 0; end; give (s0)", "0", "012", "0123", "0")
        self.ahead("word l3 0; word l4 1; each l0 l1 l2; word l3 0; end; give (s0)", "0", "03", "034", "0124", "01234", "04")
        self.ahead("word l2 0; word l1 1; each l0 l1 l2; end; give (s0)", "0", "02", "012", "012", "0")

    def test_an_empty_round(self):
        self.ahead("each l0 l1 l2; end; give (s0)", "0", "012", "0")
        self.ahead("each l0 l0 l1; end; give (s0)", "0", "01", "")

    def test_a_round_that_writes_its_leader_rest_or_letter(self):
        self.ahead("each l0 l1 l2; word l0 0; end; give (s0)", "0", "12", "012", "")
        self.ahead("each l0 l1 l2; word l1 0; word l2 0; end; give (s0)", "0", "012", "012", "012", "0")

    def test_branches(self):
        self.ahead("when l0; word l1 0; word l2 0; zero; word l2 1; word l3 0; one; word l2 -; end; give (s0)",
                   "0", "0", "01", "012", "0", "02", "023", "0", "02", "02")
        self.ahead("word l1 0; when l1; zero; one; end; give (s0)", "0", "01", "01", "01", "01", "01")
        self.ahead("when l0; word l1 0; zero; word l1 0; one; end; give (s0)", "0", "0", "01", "0", "01", "0", "0")

    def test_a_branch_in_which_something_is_taken_away(self):
        self.ahead("word l1 0; when s0; each l0 l1 l2; end; zero; one; end; give (s0)", "0", "01", "01", "012", "0", "01", "01", "0")

    def test_rounds_within_one_another(self):
        self.ahead("word l5 0; each l0 l1 l2; word l6 0; each l1 l3 l4; word l5 1; end; word l6 0; end; give (s0)",
                   "0", "05", "012", "0126", "012346", "0123456", "0126", "0126", "0")
        self.ahead("word l5 0; each l0 l1 l2; each l5 l3 l4; end; end; give (s0)", "0", "05", "0125", "012345", "0125", "05")

    def test_branches_in_rounds(self):
        self.ahead("word l3 0; each l0 l1 l2; when l2; zero; word l3 0; one; end; end; give (s0)",
                   "0", "03", "012", "012", "012", "0123", "012", "012", "0")

    def test_a_later_function(self):
        unit = unit_of_codes(code_of(2, 0, 2, 0, "give (l0)"), code_of(0, 0, 1, 0, "word l0 0; give (l0)"))
        self.assertEqual([set_ahead(unit, 0, 0), set_ahead(unit, 1, 0), set_ahead(unit, 1, 1)], [(l(0), l(1)), (), (l(0),)])

    def test_many_units(self):
        rows = 0
        for seed in range(200):
            unit = UnitMaker(seed, seed % 2 == 0).unit()
            for f, code in enumerate(unit[1]):
                slow = slow_ahead(code)
                for row in range(len(code[4])):
                    self.assertEqual(set_ahead(unit, f, row), tuple(sorted(slow[row])))
                    rows += 1
        self.assertGreater(rows, 3000)

    def test_more_than_ten_registers_are_in_the_order_of_their_numbers(self):
        unit = unit_of_codes(code_of(12, 0, 13, 0, "word l12 0; give (l0)"))
        self.assertEqual(set_ahead(unit, 0, 1), tuple(l(at) for at in range(13)))

    def test_at_the_limits(self):
        text = "; ".join(["each l%d l%d l%d" % (k, 2 * k + 1, 2 * k + 2) for k in range(5)] + ["word l%d 0" % k for k in range(11, 40)]
                         + ["move s%d s0" % (k % 40) for k in range(80)] + ["end"] * 5 + ["give (s0)"])
        unit = unit_of_codes(*[code_of(1, 40, 40, 40, text)] * 12)
        self.assertEqual(len(unit[1][11][4]), 120)
        self.assertEqual(set_ahead(unit, 11, 113), tuple(l(at) for at in range(40)))
        self.assertEqual(set_ahead(unit, 11, 115), tuple(l(at) for at in range(9)))
        self.assertEqual(set_ahead(unit, 11, 119), (l(0),))


class ErrorsTest(unittest.TestCase):
    UNIT = unit_of_codes(code_of(1, 0, 1, 1, "give (s0)"), code_of(1, 0, 1, 1, "word s0 0; give (s0)"))

    def test_units_that_are_not_taken(self):
        bad = unit_of_codes(code_of(0, 0, 1, 1, "give (l0)"))
        for thing in ODD_VALUES + (bad, [self.UNIT], list(self.UNIT)):
            with self.assertRaises(BadUnit) as caught:
                set_ahead(thing, None, None)
            self.assertIs(caught.exception.thing, thing)

    def test_numbers(self):
        for f in ODD_VALUES + (2, -1, "0", (0,), False, True, 1.0):
            if type(f) is not int or not 0 <= f < 2:
                with self.assertRaises(BadNumber) as caught:
                    set_ahead(self.UNIT, f, "no row")
                self.assertIs(caught.exception.thing, f)
        for row in ODD_VALUES + (2, -1, "0", (0,), False, True, 1.0):
            if type(row) is not int or not 0 <= row < 2:
                with self.assertRaises(BadNumber) as caught:
                    set_ahead(self.UNIT, 1, row)
                self.assertIs(caught.exception.thing, row)
        with self.assertRaises(BadNumber):
            set_ahead(self.UNIT, 0, 1)
        with self.assertRaises(BadNumber):
            set_ahead(((), (), ()), 0, 0)
