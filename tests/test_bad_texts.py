"""Texts that cannot be read, and the line of BadText [1.4]."""

import random
import unittest

from quicktongue.errors import BadText
from quicktongue.texts import read, written
from tests.slow import slow_read
from tests.support import ODD_VALUES, TreeMaker

GOOD_LINES = (
    "fun f(x, y; a) own s, t", "  let z = cut (x + 0)", '  set s, t = g(x, "01"; a, s)', "  when cut a", "    none",
    "      set s = a", "    one", "      each x as r, l", "        set a = a + 1", "  give s, t",
)


def bad_line(text):
    """The number of BadText; None if the text can be read."""
    try:
        read(text)
    except BadText as error:
        return error.at
    return None


def can_go_on(lines):
    """Whether a text that begins with these lines can be read."""
    ends = [lines] + [lines + [" " * indent + "give x"] for indent in range(1, 60)]
    return any(slow_read("\n".join(end)) is not None for end in ends)


class BadTextTest(unittest.TestCase):
    def bad(self, text, at):
        self.assertEqual(bad_line(text), at, text)

    def bad_term(self, *terms):
        for term in terms:
            self.bad("fun f(x;)\n  give " + term, 2)
            self.bad("fun f(x;)\n  let y = " + term + "\n  give x", 2)
            self.bad("fun f(x;)\n  when " + term, 2)
            self.bad("fun f(x;)\n  give x, " + term, 2)
            self.bad("fun f(x;)\n\n  # more\n  give g(x; (" + term + "))\n", 4)

    def test_no_string(self):
        for thing in ODD_VALUES + (b"", ["fun f(x;)", "  give x"]):
            if not isinstance(thing, str):
                with self.assertRaises(BadText) as caught:
                    read(thing)
                self.assertIs(type(caught.exception.at), int)
                self.assertEqual(caught.exception.at, 0)

    def test_terms(self):
        self.bad_term("", "()", "(", ")", "(x", "x)", "((x)", "(x))", "x y", "x +", "x + 2", "x + x", "+ 0", "x 0",
                      "x + 01", "x + 0 1", "x + 00", "x ++ 0", "x + + 0", "cut", "cut cut", "cut ()", "x cut", "cut + 0",
                      '"', '"0', '0"', '"2"', '" 0"', '"0 1"', '"0""1"', '""0', "'0'", "0", "01", "own", "fun", "none",
                      "as", "let", "x = y", "x;", ",", "x,", ", x", "(x, y)", "(x; y)", "(x,)")

    def test_calls(self):
        self.bad_term("f(", "f(x", "f(x)", "f()", "f(;", "f(x;", "f(x;y", "f;)", "f x;)", "f(x,;)", "f(,x;)", "f(x,,y;)",
                      "f(;x,)", "f(;,x)", "f(;,)", "f(,;)", "f(;;)", "f(x;;y)", "f(x y;)", "f(x;y z)", "f(;))", "(f)(x;)",
                      "f(;)(;)", "own(;)", "cut(x;)", "f(x;) y", "f (x)", "f((x;))", "f(x;y", '"0"(;)', "f(;)x", "f(x=y;)")

    def test_other_signs_where_a_bracket_or_a_semicolon_ends_something(self):
        self.bad_term("(x y", "(x;", "(x =", "(x,", "(x cut", "f(= )", "f() )", "f(x = )", "f(x) )", "f(x = y)", "f(x y)",
                      "f(=)", "f(;=", "f(; ;", "f(;,", "f(;x =", "f(;x ;", "f(;x y", "f(x;(y;", "f(x;y =")

    def test_signs(self):
        self.bad_term("X", "xY", "x-y", "x.y", "_x", "x\t", "\tx", "x\r", "x\xa0", "\xe9", "%", "x!", "0x", "9", "{x}",
                      "x" * 21, "cut_" + "x" * 17, "x'", "[x]", "x*y", "x\x00", "x + 0x", "x + 0_", "x + 0own")
        self.bad_term("g(" + "x" * 21 + ";)", "x" * 21 + "(;)")
        self.assertIsNone(bad_line("fun f(x;)\n  give " + "x" * 20))

    def test_first_lines(self):
        for line in ("fun", "fun f", "fun f(", "fun f()", "fun f(x)", "fun f(x;", "fun f x;)", "fun (x;)", "fun f(x,;)",
                     "fun f(;x,)", "fun f(x y;)", "fun f(x;y;z)", "fun f(x;) own", "fun f(x;) own x,", "fun f(x;) own ,x",
                     "fun f(x;) own x y", "fun f(x;) s", "fun f(x;) own own", "fun f(own;)", "fun cut(x;)", "fun f((x);)",
                     "fun f(x + 0;)", 'fun f("0";)', "fun f(x;) own s own t", "fun f(x;))", "fun f(x;), own s", "fun f g(;)",
                     "fun f(;);", "funf(x;)", "fun f(x;)owns", "Fun f(x;)", "f(x;)", "give x", "let x = y", "none",
                     "when x", "each x as r, l", "fun f(x; a) own (s)", "fun " + "f" * 21 + "(;)", "fun f(g(;);)",
                     "fun f(x;) give x", " fun f(x;)", "        fun f(x;)", "\tfun f(x;)", "x", "=", "0", '"0"'):
            self.bad(line + "\n  give x", 1)
            self.bad("# first\n\nfun f(x;)\n  give x\n" + line + "\n  give x", 5)

    def test_commands(self):
        for line in ("let", "let x", "let x =", "let = x", "let x x", "let x = y z", "let x, y = z", "let (x) = y",
                     "let own = x", "let x == y", "let x = y = z", "let x = y, z", "letx = y", "let x = y;", 'let "0" = x',
                     "let f( = x", "set", "set x", "set x =", "set = x", "set x, = y", "set ,x = y", "set x y = z",
                     "set x,, y = z", "set (x) = y", "set x = y, z", "set one = x", "setx = y", "set x, own = y",
                     "when", "whenx", "when x y", "when x, y", "when x none", "when none", "each", "each x", "each x as",
                     "each x as r", "each x as r,", "each x as r l", "each x as r, l,", "each x as r, l m", "each x as , l",
                     "each as r, l", "each x r, l", "each x, y as r, l", "each (x) as r, l", "each x as (r), l",
                     "each cut x as r, l", "each x as r; l", "each x as r, one", "each none as r, l", "eachx as r, l",
                     "each xas r, l", "each x asr, l", "give", "givex", "give x,", "give ,x", "give x y", "give x;", "none",
                     "zero", "one", "own s", "as", "cut x", "x", "x = y", "x + 0", "f(x;)", "fun g(x;)", "fun", "0", "+", ";",
                     "=", "()", '"01"', "Let x = y", "let x = y let z = y", "set x = y give x"):
            self.bad("fun f(x;)\n  " + line + "\n  give x", 2)
            self.bad("fun f(x;)\n  let y = x\n  each x as r, l\n\n      " + line, 5)

    def test_a_line_cut_off_or_with_too_much(self):
        for at, line in enumerate(GOOD_LINES):
            before = list(GOOD_LINES[:at])
            for end in range(len(line) + 1):
                self.same_as_slow("\n".join(before + [line[:end]]))
            for extra in (" x", ",", ";", "(", ")", " = x", " + 0 x", ' "0', " give x", "\t", " 1"):
                self.same_as_slow("\n".join(before + [line + extra] + list(GOOD_LINES[at + 1:])))

    def test_branch_lines(self):
        self.assertIsNone(bad_line("fun f(x;)\n when x\n  none\n  zero\n  one\n give x"))
        self.bad("fun f(x;)\n when x\n  none\n  none\n give x", 4)
        self.bad("fun f(x;)\n when x\n  one\n  zero\n give x", 4)
        self.bad("fun f(x;)\n when x\n  zero\n  none\n give x", 4)
        self.bad("fun f(x;)\n when x\n  none\n  one\n  zero\n give x", 5)
        self.bad("fun f(x;)\n when x\n  none\n   let y = x\n  none\n give x", 5)
        self.bad("fun f(x;)\n when x\n  let y = x\n give x", 3)
        self.bad("fun f(x;)\n when x\n  none\n  let y = x\n give x", 4)
        self.bad("fun f(x;)\n when x\n  give x", 3)
        self.bad("fun f(x;)\n when x\n  when x\n   none", 3)
        self.bad("fun f(x;)\n when x\n none\n give x", 3)
        self.bad("fun f(x;)\n each x as r, l\n  none\n give x", 3)
        self.bad("fun f(x;)\n when x\n  none\n   zero\n give x", 4)
        self.bad("fun f(x;)\n when x\n  none x\n give x", 3)
        self.bad("fun f(x;)\n when x\n  none:\n give x", 3)
        self.bad("fun f(x;)\n  when x\n    none\n   zero\n  give x", 4)
        self.bad("fun f(x;)\n  when x\n    none\n     zero\n  give x", 4)

    def test_depths(self):
        self.bad("fun f(x;)\ngive x", 2)
        self.bad("fun f(x;)\nlet y = x\ngive x", 2)
        self.bad("fun f(x;)\n  let y = x\n   give x", 3)
        self.bad("fun f(x;)\n  let y = x\n give x", 3)
        self.bad("fun f(x;)\n  let y = x\n   let z = x\n  give x", 3)
        self.bad("fun f(x;)\n  let y = x\n let z = x\n  give x", 3)
        self.bad("fun f(x;)\n  let y = x\nlet z = x\n  give x", 3)
        self.bad("fun f(x;)\n  each x as r, l\nlet z = x\n  give x", 3)
        self.bad("fun f(x;)\n  each x as r, l\ngive x", 3)
        self.bad("fun f(x;)\n  when x\nnone\n  give x", 3)
        self.bad("fun f(x;)\n  when x\n    none\nlet z = x\n  give x", 4)
        self.bad("fun f(x;)\n  each x as r, l\n      let y = x\n    let z = x\n  give x", 4)
        self.bad("fun f(x;)\n  each x as r, l\n      let y = x\n        let z = x\n  give x", 4)
        self.bad("fun f(x;)\n  each x as r, l\n   give x", 3)
        self.bad("fun f(x;)\n  each x as r, l\n   let y = x\n   give x", 4)
        self.bad("fun f(x;)\n  when x\n    one\n      give x\n  give x", 4)
        self.bad("fun f(x;)\n  when x\n    one\n     let y = x\n      let z = x\n", 5)
        self.bad("fun f(x;)\n  when x\n    one\n     let y = x\n    let z = x\n", 5)
        self.bad("fun f(x;)\n  when x\n    one\n     let y = x\n   let z = x\n", 5)

    def test_where_a_give_or_a_first_line_cannot_stand(self):
        self.bad("fun f(x;)\n  give x\n  give x", 3)
        self.bad("fun f(x;)\n  give x\n  let y = x", 3)
        self.bad("fun f(x;)\n  give x\n    let y = x", 3)
        self.bad("fun f(x;)\n  give x\ngive x", 3)
        self.bad("fun f(x;)\nfun g(x;)\n  give x", 2)
        self.bad("fun f(x;)\n  fun g(x;)\n  give x", 2)
        self.bad("fun f(x;)\n  let y = x\nfun g(x;)\n  give x", 3)
        self.bad("fun f(x;)\n  each x as r, l\nfun g(x;)", 3)
        self.bad("fun f(x;)\n  give x\n fun g(x;)\n  give x", 3)
        self.bad("fun f(x;)\n  give x\n\n\nx", 5)
        self.bad("  give x", 1)
        self.bad("\n\n  give x", 3)

    def test_where_the_text_ends_within_a_function(self):
        for at in range(1, len(GOOD_LINES)):
            text = "\n".join(GOOD_LINES[:at])
            self.bad(text, at + 1)
            self.bad(text + "\n", at + 2)
            self.bad("\n" + text + " # more\n   \n# and more\n", at + 5)
            self.bad("\n".join(GOOD_LINES) + "\n" + text, at + len(GOOD_LINES) + 1)
        self.assertIsNone(bad_line("\n".join(GOOD_LINES)))

    def test_the_first_bad_line_counts(self):
        self.bad("fun f(x;)\n  let = x\n  none\nfun", 2)
        self.bad("fun f(x;)\n  let y = x\n\tgive x\n  give", 3)
        self.bad("x\n" + "\n".join(GOOD_LINES), 1)

    def same_as_slow(self, text):
        at = bad_line(text)
        if at is None:
            self.assertEqual(read(text), slow_read(text), text)
            return
        lines = text.split("\n")
        self.assertIsNone(slow_read(text), text)
        self.assertTrue(can_go_on(lines[:at - 1]), (text, at))
        self.assertTrue(at == len(lines) + 1 or not can_go_on(lines[:at]), (text, at))

    def test_changed_texts(self):
        for seed in range(150):
            rng = random.Random(seed)
            text = written(TreeMaker(seed).tree())
            for _ in range(4):
                self.same_as_slow(self.changed(text, rng))

    def changed(self, text, rng):
        """The text with a sign or a line otherwise."""
        k = rng.randrange(len(text) + 1)
        lines = text.split("\n")
        i = rng.randrange(len(lines))
        way = rng.randrange(6)
        if way == 0:
            return text[:k] + rng.choice(' \n\t#"01(),;=+axcut_') + text[k:]
        if way == 1:
            return text[:k] + text[k + 1:]
        if way == 2:
            return "\n".join(lines[:i] + lines[i + 1:])
        if way == 3:
            return "\n".join(lines[:i] + [rng.choice(lines)] + lines[i:])
        if way == 4:
            return "\n".join(lines[:i] + [" " + lines[i]] + lines[i + 1:])
        return "\n".join(lines[:i] + [lines[i][1:]] + lines[i + 1:])

    def test_at_the_limits(self):
        lines = ["fun f(x;)"] + ["  let y = x"] * 298 + ["  give x"]
        self.assertIsNone(bad_line("\n".join(lines)))
        self.bad("\n".join(lines[:-1]), 300)
        self.bad("\n".join(lines[:-1] + ["   give x"]), 300)
        self.bad_term("(" * 90 + "x" + ")" * 89, "(" * 90 + "x" + ")" * 91, "(" * 90, "cut (" * 30 + "x" + ")" * 29)
