"""Texts as words, and functions that are to run all programs [12.1, 12.2]."""

import random
import unittest

from quicktongue.errors import BadName, BadProgram, BadText, BadWord
from quicktongue.levels import is_program
from quicktongue.meaning import run
from quicktongue.outwit import does_err, outwit, text_of_word, word_of_text
from quicktongue.texts import read, written
from tests.support import ODD_VALUES, ProgramMaker

SIGNS = "\n" + "".join(chr(code) for code in range(32, 127) if code != 37)
FIRST = read("fun f(p, x;)\n  give cut x")
# Functions with two leads, no softs and one give.
RUNNERS = (
    "fun f(p, x;)\n  give x", "fun f(p, x;)\n  give p", "fun f(a, b;)\n  give \"\"", "fun g(x; a)\n  give a\nfun f(p, x;)\n  give g(p; x)",
    "fun f(p, x;) own s\n  each x as r, l\n    when l\n      one\n        set s = s + 1\n  give s",
    "fun f(p, x;)\n  give cut (p + 0)\nfun last(x; a)\n  give a, x", "fun n(;)\n  give \"1\"\nfun f(p, n;)\n  give n(;)",
    "fun a(;)\n  give \"\"\nfun f(x, n;) own s\n  when x\n    zero\n      set s = n\n    one\n      set s = x\n  give s + 1\nfun n0(x, y;)\n  give y",
)


class TextWordTest(unittest.TestCase):
    def test_examples(self):
        self.assertEqual(word_of_text(""), "")
        self.assertEqual(text_of_word(""), "")
        self.assertEqual(word_of_text("\n"), "0001010")
        self.assertEqual(word_of_text(" ~"), "01000001111110")
        self.assertEqual(text_of_word("0001010" + "0100000" + "1111110"), "\n ~")

    def test_each_sign(self):
        for code in range(128):
            word = format(code, "07b")
            self.assertEqual(text_of_word(word), chr(code) if chr(code) in SIGNS else None, code)
            self.assertEqual(text_of_word(word_of_text("a") + word), "a" + chr(code) if chr(code) in SIGNS else None)
            self.assertEqual(text_of_word(word + word_of_text("a")), chr(code) + "a" if chr(code) in SIGNS else None)
            if chr(code) in SIGNS:
                self.assertEqual(word_of_text(chr(code)), word)
            else:
                self.bad(chr(code))
                self.bad("ab" + chr(code) + "cd")
        self.assertEqual(len(SIGNS), 95)

    def test_there_and_back(self):
        rng = random.Random(1)
        for many in list(range(30)) + [200]:
            text = "".join(rng.choice(SIGNS) for _ in range(many))
            word = word_of_text(text)
            self.assertEqual(len(word), 7 * many)
            self.assertEqual(text_of_word(word), text)
            self.assertEqual(word, "".join(format(ord(sign), "07b") for sign in text))

    def test_drawn_words(self):
        rng = random.Random(2)
        told = 0
        for _ in range(1500):
            word = "".join(rng.choice("01") for _ in range(rng.randrange(30)))
            text = text_of_word(word)
            if len(word) % 7 or any(chr(int(word[at:at + 7], 2)) not in SIGNS for at in range(0, len(word), 7)):
                self.assertIsNone(text)
            else:
                told += 1
                self.assertEqual(word_of_text(text), word)
        self.assertGreater(told, 100)

    def test_lengths(self):
        for many in range(1, 22):
            self.assertEqual(text_of_word(("1100001" * 3)[:many]), "a" * (many // 7) if many % 7 == 0 else None)

    def bad(self, text):
        with self.assertRaises(BadText) as caught:
            word_of_text(text)
        self.assertEqual(caught.exception.at, 0)
        self.assertIs(type(caught.exception.at), int)

    def test_no_text_signs(self):
        for text in ("%", "a%", "%%", "\t", "\r", "a\r\n", "\x00", "\x7f", "\x80", "\u00e9", "\u20ac", "a" * 100 + "%", "\ud800"):
            self.bad(text)
        for thing in ODD_VALUES:
            if type(thing) is not str or "%" in thing:
                self.bad(thing)
            else:
                self.assertEqual(text_of_word(word_of_text(thing)), thing)

    def test_no_words(self):
        for thing in ODD_VALUES + ("2", "0 1", "0110 ", "a" * 7):
            if type(thing) is str and thing.strip("01") == "":
                continue
            with self.assertRaises(BadWord) as caught:
                text_of_word(thing)
            self.assertIs(caught.exception.thing, thing)


class OutwitTest(unittest.TestCase):
    def outwitted(self, program, f):
        """What outwit tells is as the document describes it, and the function errs on it."""
        other, word = outwit(program, f)
        self.assertIs(is_program(other), True)
        self.assertEqual(other[:-1], program)
        kind, name, leads, softs, owns, block, gives = other[-1]
        self.assertEqual((kind, len(leads), softs, owns, block, len(gives)), ("fun", 1, (), (), (), 1))
        self.assertNotIn(name, [function[1] for function in program])
        (put, call, letter), lead = gives[0], ("name", leads[0])
        self.assertEqual((put, call), ("put", ("call", f, (lead, lead), ())))
        self.assertIn(letter, ("0", "1"))
        self.assertEqual(word, word_of_text(written(other)))
        self.assertLessEqual(len(word), 1400)
        self.assertIs(does_err(program, f, other, word), True)
        self.assertNotEqual(run(program, f, (word, word), ())[0], run(other, name, (word,), ())[0])
        return other

    def test_each_runner(self):
        for text in RUNNERS:
            self.outwitted(read(text), "f")
        self.outwitted(read(RUNNERS[-1]), "n0")

    def test_again(self):
        for text in RUNNERS[:3]:
            program = read(text)
            for _ in range(3):
                program = self.outwitted(program, "f")
            self.assertEqual(len({function[1] for function in program}), 4)

    def test_names_that_are_taken(self):
        taken = ["n"] + ["n%d" % k for k in range(5)] + ["a", "b", "x", "last"]
        for many in range(len(taken)):
            program = tuple(("fun", name, (), (), (), (), (("word", ""),)) for name in taken[:many])
            self.outwitted(program[:6] + FIRST, "f")
        self.outwitted(read("fun %s(p, x;)\n  give x" % ("f" * 20)), "f" * 20)

    def test_texts_of_120_signs(self):
        text = "fun %s(p, x;)\n  give " % ("f" * 20)
        while len(text) < 115:
            text += "cut "
        text += "x"
        text = text + " + 0" if len(text) <= 116 else text
        self.assertLessEqual(len(text), 120)
        self.assertGreater(len(text), 115)
        program = read(text)
        self.assertEqual(written(program), text)
        self.outwitted(program, "f" * 20)

    def test_drawn_programs(self):
        runners = 0
        for seed in range(600):
            maker = ProgramMaker(seed)
            program = maker.program()
            if len(written(program)) > 120:
                continue
            for function in program:
                if (len(function[2]), len(function[3]), len(function[6])) == (2, 0, 1):
                    runners += 1
                    self.outwitted(program, function[1])
                else:
                    self.bad_name(program, function[1])
        self.assertGreater(runners, 5)

    def bad_name(self, program, f):
        for function, others in ((outwit, ()), (does_err, (["bad"], ["bad"])), (does_err, (program, "0"))):
            with self.assertRaises(BadName) as caught:
                function(program, f, *others)
            self.assertIs(caught.exception.thing, f)

    def test_names(self):
        program = read("fun a(x;)\n  give x\nfun b(x, y; z)\n  give x\nfun c(x, y;)\n  give x, y\nfun d(x, y, z;)\n  give x\n"
                       "fun e(; x, y)\n  give x\nfun f(x, y;) own z\n  give x")
        for f in ODD_VALUES + ("a", "b", "c", "d", "e", "g", "F", "f ", ["f"], ("f",)):
            self.bad_name(program, f)
        self.bad_name((), "f")
        self.outwitted(program, "f")

    def test_programs(self):
        for program in ODD_VALUES + (read("fun f(x, y;)\n  give x") + (None,), list(FIRST), (("fun", "f", ("p", "x"), (), (), (), (("name", "y"),)),)):
            if program == ():
                continue
            for function, others in ((outwit, (["bad"],)), (does_err, (["bad"],) * 3), (does_err, ("f", FIRST, "0"))):
                with self.assertRaises(BadProgram) as caught:
                    function(program, *others)
                self.assertIs(caught.exception.thing, program)


class DoesErrTest(unittest.TestCase):
    def test_what_the_two_runs_tell(self):
        rng = random.Random(3)
        others = [read(text) for text in ("fun a(x;)\n  give x", "fun a(x;)\n  give cut x", "fun a(x;)\n  give x + 1", 'fun a(x;)\n  give ""',
                                          "fun b(; a)\n  give a, a\nfun a(x;) own s, t\n  set s, t = b(; x)\n  give t",
                                          "fun a(x;) own s\n  each x as r, l\n    when l\n      one\n        set s = s + 1\n  give s")]
        found = []
        for text in RUNNERS:
            program = read(text)
            for other in others:
                for word in ["", "0", "1", "10"] + ["".join(rng.choice("01") for _ in range(12)) for _ in range(2)]:
                    first = run(program, "f", (word_of_text(written(other)), word), ())[0]
                    told = does_err(program, "f", other, word)
                    self.assertIs(told, first != run(other, "a", (word,), ())[0])
                    found.append(told)
        self.assertGreater(found.count(True), 30)
        self.assertGreater(found.count(False), 30)

    def test_the_first_argument_is_the_programs_text(self):
        other = read("fun a(x;)\n  give \"%s\"" % word_of_text("a"))
        # The runner gives the last seven letters 1 of the text: the sign at its end.
        program = read("fun f(p, x;) own s, t\n  set s = p\n" + "  set s = cut s\n" * 7 + "  give s")
        self.assertIs(does_err(program, "f", other, ""), True)
        short = read("fun a(x;)\n  give x")
        text = word_of_text(written(short))
        self.assertEqual(run(program, "f", (text, ""), ())[0], (text[:-7],))
        self.assertIs(does_err(program, "f", short, text[:-7]), False)
        self.assertIs(does_err(program, "f", short, text), True)

    def test_other_programs(self):
        right = read("fun b(; x)\n  give x\nfun a(x;)\n  give x")
        self.assertIs(does_err(read("fun f(p, x;)\n  give x"), "f", right, "01"), False)
        for other in ODD_VALUES + (
                (), read("fun a(x;)\n  give x\nfun b(; x)\n  give x"), read("fun a(;)\n  give \"\""), read("fun a(x, y;)\n  give x"),
                read("fun a(x; y)\n  give x"), read("fun a(x;)\n  give x, x"), list(right), right + (None,), (("fun", "a", ("x",), (), (), (), (("name", "y"),)),),
                read("fun a(; x)\n  give x")):
            for word in (["bad"], "0"):
                with self.assertRaises(BadProgram) as caught:
                    does_err(FIRST, "f", other, word)
                self.assertIs(caught.exception.thing, other)

    def test_words(self):
        other = read("fun a(x;)\n  give x")
        for word in ODD_VALUES:
            if type(word) is str and word.strip("01") == "":
                self.assertIs(does_err(FIRST, "f", other, word), word != "")
                continue
            with self.assertRaises(BadWord) as caught:
                does_err(FIRST, "f", other, word)
            self.assertIs(caught.exception.thing, word)

    def test_long_inputs(self):
        program = read("fun f(p, x;) own s\n  each x as r, l\n    set s = s + 1\n  give s")
        other = read("fun a(x;)\n  give x")
        self.assertIs(does_err(program, "f", other, "1" * 1400), False)
        self.assertIs(does_err(program, "f", other, "1" * 1399 + "0"), True)
