"""Texts of units [10.3]."""

import random
import unittest

from quicktongue.assembler import text_of_unit, unit_of_text
from quicktongue.compiler import plain_unit
from quicktongue.errors import BadText, BadUnit
from tests.loosemaker import loose_text_unit
from tests.slowbytes import slow_unit_of_lines, slow_unit_text_at
from tests.slowcode import slow_is_unit
from tests.support import KEPT_WORDS, ODD_VALUES, ProgramMaker, bent
from tests.unitmaker import UnitMaker, code_of, l, s

CODE = "code 9 9 9 9"


class TextOfUnitTest(unittest.TestCase):
    def both(self, unit, text):
        """The unit has this text, which leads back to it."""
        self.assertEqual(text_of_unit(unit), text)
        self.assertEqual(unit_of_text(text), unit)
        self.assertEqual(slow_unit_of_lines(text.split("\n") if text else []), unit)

    def row(self, row, text):
        self.both(((), ((9, 9, 9, 9, (row, ("end",), row)),), ()), CODE + "\n" + text + "\nend\n" + text)

    def test_the_empty_unit(self):
        self.both(((), (), ()), "")

    def test_needs_codes_and_shows(self):
        self.both(((("n", 0, 10, 1),), (), ()), "needs n 0 10 1")
        self.both(((("n", 0, 0, 1), ("a_9", 7, 8, 99)), (), ()), "needs n 0 0 1\nneeds a_9 7 8 99")
        self.both(((), ((0, 0, 0, 0, ()),), ()), "code 0 0 0 0")
        self.both(((), ((1, 2, 30, 4000, ()), (0, 0, 0, 0, ())), (("f", 1), ("g", 0))), "code 1 2 30 4000\ncode 0 0 0 0\nshow f 1\nshow g 0")
        self.both(((("n", 1, 2, 3),), (code_of(1, 0, 2, 1, "move l1 l0; give (l1)"), code_of(0, 0, 0, 0, "end")), (("n", 0),)),
                  "needs n 1 2 3\ncode 1 0 2 1\nmove l1 l0\ngive (l1)\ncode 0 0 0 0\nend\nshow n 0")

    def test_rows(self):
        self.row(("word", l(0), ""), 'word l0 ""')
        self.row(("word", s(12), "0110"), 'word s12 "0110"')
        self.row(("move", l(1), s(200)), "move l1 s200")
        self.row(("put", s(0), l(10), "0"), "put s0 l10 0")
        self.row(("put", l(0), s(0), "1"), "put l0 s0 1")
        self.row(("cut", s(1), s(1)), "cut s1 s1")
        self.row(("call", 0, (), (), ()), "call 0 () () ()")
        self.row(("call", 7, (l(0),), (s(0), l(1)), (s(3), s(2), s(1))), "call 7 (l0) (s0, l1) (s3, s2, s1)")
        self.row(("when", s(0)), "when s0")
        self.row(("zero",), "zero")
        self.row(("one",), "one")
        self.row(("end",), "end")
        self.row(("each", l(0), s(1), l(20)), "each l0 s1 l20")
        self.row(("give", (s(0),)), "give (s0)")
        self.row(("give", (s(0), l(0), s(0))), "give (s0, l0, s0)")

    def test_large_and_negative_numbers(self):
        far = 10 ** 39
        self.row(("call", -1, (), (), ()), "call -1 () () ()")
        self.row(("call", -far, (l(far),), (), ()), "call -%d (l%d) () ()" % (far, far))
        self.row(("word", s(far), "01" * 500), 'word s%d "%s"' % (far, "01" * 500))
        self.both(((("n", far, far, far),), ((far, 0, far, far, ()),), ()), "needs n %d %d %d\ncode %d 0 %d %d" % ((far,) * 6))

    def test_shapes_that_are_not_right(self):
        self.both(((), (code_of(0, 0, 0, 0, "give (s0); give (l0); end; one"), code_of(0, 0, 0, 0, "when s0; zero; zero")), ()),
                  "code 0 0 0 0\ngive (s0)\ngive (l0)\nend\none\ncode 0 0 0 0\nwhen s0\nzero\nzero")

    def test_many_units(self):
        rng = random.Random(1)
        for seed in range(1500):
            unit = loose_text_unit(rng) if seed % 3 else UnitMaker(seed, seed % 2 == 0).unit()
            text = text_of_unit(unit)
            self.assertEqual(unit_of_text(text), unit)
            self.assertEqual(slow_unit_of_lines(text.split("\n") if text else []), unit)
            many = len(unit[0]) + len(unit[1]) + sum(len(code[4]) for code in unit[1]) + len(unit[2])
            self.assertEqual(text.count("\n") + 1 if text else 0, many)

    def test_plain_units(self):
        for seed in range(100):
            unit = plain_unit(ProgramMaker(seed).program())
            self.assertEqual(unit_of_text(text_of_unit(unit)), unit)

    def test_at_the_limits(self):
        names = [first + "_" * 19 for first in "abcdefghijkl"]
        rows = (("word", s(39), "01" * 30), ("call", 23, (l(39),) * 40, (s(0),) * 40, tuple(s(k) for k in range(40)))) * 59
        unit = (tuple((name, 40, 40, 40) for name in names), ((1, 1, 40, 40, rows + (("end",), ("give", (s(39),) * 40))),) * 12,
                tuple((name, k) for k, name in enumerate(names)))
        self.assertEqual(unit_of_text(text_of_unit(unit)), unit)

    def test_no_units(self):
        for thing in ODD_VALUES:
            self.bad(thing)
        rng = random.Random(2)
        for _ in range(600):
            unit = bent(loose_text_unit(rng), rng)
            if slow_is_unit(unit):
                self.assertEqual(unit_of_text(text_of_unit(unit)), unit)
            else:
                self.bad(unit)

    def bad(self, unit):
        with self.assertRaises(BadUnit) as caught:
            text_of_unit(unit)
        self.assertIs(caught.exception.thing, unit)


class BadTextTest(unittest.TestCase):
    def at(self, text):
        try:
            unit_of_text(text)
        except BadText as error:
            return error.at
        return None

    def bad(self, text, at):
        self.assertEqual(self.at(text), at, text)
        self.assertEqual(slow_unit_text_at(text), at, text)

    def test_no_strings(self):
        for thing in ODD_VALUES:
            if type(thing) is not str:
                with self.assertRaises(BadText) as caught:
                    unit_of_text(thing)
                self.assertEqual(caught.exception.at, 0)
                self.assertIs(type(caught.exception.at), int)
            elif thing:
                self.bad(thing, 1)

    def test_rows(self):
        for line in (
                "", " ", " end", "end ", "end  ", "ends", "END", "end 0", "end ()", "stop", "zero s0", "word", "word s0", 'word s0 ""  ', 'word s0  ""',
                'word s0 "2"', 'word s0 "01', "word s0 01", 'word s0 01"', 'word s0 " "', 'word "01" s0', 'word s0 "01" "01"', 'word S0 ""', 'word s ""',
                'word s-1 ""', 'word s00 ""', 'word s01 ""', 'word s+1 ""', 'word t0 ""', 'word 0s ""', 'word s1_0 ""', 'word s0x ""', 'word s0, ""',
                'word (s0) ""', 'word\ts0 ""', "move l0", "move l0 s0 s0", "move l0, s0", "move l0  s0", "move (l0) s0", "put s0 l0", "put s0 l0 2",
                'put s0 l0 "0"', "put s0 l0 01", "put s0 l0 00", "put s0 l0 + 0", "put s0 l0 0 ", "put 0 s0 l0", "cut s0 s0 0", "call", "call 0", "call 0 () ()",
                "call 0 () () () ()", "call () () () 0", "call -0 () () ()", "call +1 () () ()", "call 01 () () ()", "call - () () ()", "call --1 () () ()",
                "call 1- () () ()", "call 1.0 () () ()", "call x () () ()", "call 0 ()() ()", "call 0 ( ) () ()", "call 0 (l0,l1) () ()",
                "call 0 (l0 l1) () ()", "call 0 (l0,  l1) () ()", "call 0 (l0, l1,) () ()", "call 0 (l0, l1, ) () ()", "call 0 ( l0) () ()",
                "call 0 (l0 ) () ()", "call 0 (, l0) () ()", "call 0 (l0 , l1) () ()", "call 0 (l0 () ()", "call 0 l0) () ()", "call 0 l0 () ()",
                "call 0 () () ", "call 0 (l0, ) () ()", "call 0 (l0)) () ()", "call 0 ((l0)) () ()", "call 0 (()) () ()", "call 0 [] () ()", "call 0 (l0, 1) () ()",
                "when", "when (s0)", "when s0 s0", "when l-0", "each l0 l1", "each l0 l1 l2 l3", "each l0 as l1 l2", "each l0 l1, l2", "give", "give ()",
                "give s0", "give (s0", "give s0)", "give (s0) ", "give(s0)", "give (s0)(s0)", "give (s0) (s0)", "give (s0,s1)", "give (,)", "give (", "give )",
                "let x = y", "# end", "code", "needs", "show"):
            self.bad(CODE + "\n" + line, 2)
            self.bad(CODE + "\nzero\n" + line, 3)
            self.bad(CODE + "\n" + line + "\nshow f 0\nend\n\n", 2)

    def test_needs_codes_and_shows(self):
        for line in ("needs", "needs n", "needs n 0 0", "needs n 0 0 0", "needs n 0 0 1 1", "needs n 0 0 -1", "needs n -1 0 1", "needs n 0 -1 1",
                     "needs n 00 0 1", "needs n 0 0 01", "needs n 0 0 +1", "needs n 0 0  1", "needs  n 0 0 1", " needs n 0 0 1", "needs n 0 0 1 ", "needs N 0 0 1",
                     "needs 0 0 1", "needs n, 0 0 1", 'needs "n" 0 0 1', "need n 0 0 1", "needs 1n 0 0 1", "needs _ 0 0 1", "needs " + "n" * 21 + " 0 0 1",
                     "code", "code 0 0 0", "code 0 0 0 0 0", "code 1 0 0 5", "code 0 1 5 0", "code -1 0 0 0", "code 0 0 0 -0", "code 00 0 0 0", "code 0  0 0 0",
                     "code 0 0 0 0 ", "code 0, 0, 0, 0", "code l0 0 0 0", "code f 0 0 0 0", "show f 0", "show f", "give (s0)", "end", "\n", " "):
            self.bad(line, 1)
            self.bad("needs m 0 0 1\n" + line, 2)
        for line in ("show", "show f", "show f 2", "show f -1", "show f 00", "show f 01", "show f -0", "show f 0 0", "show f  0", "show f 0 ", "show 0 f", "show F 0",
                     "show f (0)", "show f l0", "show 1 0", "shows f 0", "show g 0", "show g 1", "end", "code 0 0 0 0", "needs n 0 0 1", "give (s0)", ""):
            self.bad("code 0 0 0 0\ncode 0 0 0 0\nshow g 1\n" + line, 4)
        for word in KEPT_WORDS:
            self.bad("needs " + word + " 0 0 1", 1)
            self.bad("code 0 0 0 0\nshow " + word + " 0", 2)

    def test_names_twice(self):
        self.bad("needs n 0 0 1\nneeds m 0 0 1\nneeds n 1 1 1", 3)
        self.bad("code 0 0 0 0\nshow n 0\nshow m 0\nshow n 0", 4)
        self.assertIsNone(self.at("needs n 0 0 1\ncode 0 0 0 0\nshow n 0"))

    def test_the_order_of_lines(self):
        need, code, row, show = "needs n 0 0 1", "code 0 0 0 0", "end", "show f 0"
        self.assertIsNone(self.at("\n".join((need, code, row, code, row, row, show))))
        self.bad("\n".join((code, need)), 2)
        self.bad("\n".join((code, row, need)), 3)
        self.bad("\n".join((need, row)), 2)
        self.bad("\n".join((need, show)), 2)
        self.bad("\n".join((code, show, code)), 3)
        self.bad("\n".join((code, show, row)), 3)
        self.bad("\n".join((code, show, need)), 3)
        self.bad(row, 1)
        self.bad(show, 1)

    def test_line_feeds(self):
        self.bad("\n", 1)
        self.bad("\n\n", 1)
        self.bad("code 0 0 0 0\n", 2)
        self.bad("\ncode 0 0 0 0", 1)
        self.bad("code 0 0 0 0\n\nend", 2)
        self.bad("code 0 0 0 0\r\nend", 1)
        self.bad("code 0 0 0 0;end", 1)

    def test_figures_that_are_not_ascii(self):
        for sign in ("\u00b2", "\u0663", "\uff11"):
            self.bad("code 0 0 %s 5" % sign, 1)
            self.bad("code 0 0 0 0\nwhen s%s" % sign, 2)

    def test_changed_texts(self):
        rng = random.Random(3)
        wrong = 0
        for seed in range(2500):
            unit = loose_text_unit(rng) if seed % 2 else UnitMaker(seed, False).unit()
            text = self.changed(text_of_unit(unit), rng)
            at = self.at(text)
            self.assertEqual(at, slow_unit_text_at(text), text)
            if at is None:
                self.assertEqual(text_of_unit(unit_of_text(text)), text)
            wrong += at is not None
        self.assertGreater(wrong, 1500)

    def changed(self, text, rng):
        lines = text.split("\n")
        k, other = rng.randrange(len(lines)), rng.randrange(len(lines))
        kind = rng.randrange(8)
        if kind == 0:
            lines.pop(k)
        elif kind == 1:
            lines.insert(other, lines[k])
        elif kind == 2:
            lines[k], lines[other] = lines[other], lines[k]
        elif kind == 3:
            lines.insert(other, rng.choice(("", "end", "show f 0", "needs f 0 0 1", "code 1 1 1 1", "give (s0)")))
        else:
            words = lines[k].split(" ")
            w, v = rng.randrange(len(words)), rng.randrange(len(words))
            if kind == 4:
                words.pop(w)
            elif kind == 5:
                words.insert(v, words[w])
            elif kind == 6:
                words[w], words[v] = words[v], words[w]
            else:
                words[w] = rng.choice(("", "0", "00", "-1", "l0", "s01", "(l0)", "()", "f", '"0"', words[w] + " ", words[w] + "0", words[w][:-1]))
            lines[k] = " ".join(words)
        return "\n".join(lines)
