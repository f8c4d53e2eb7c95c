"""Texts of trees and reading them [1.3, 1.4]: what is right."""

import random
import unittest

from quicktongue.errors import BadTree
from quicktongue.texts import read, written
from quicktongue.trees import is_tree
from tests.slow import slow_read
from tests.support import ODD_VALUES, TreeMaker, bent

X, Y = ("name", "x"), ("name", "y")


def fun(block=(), gives=(X,), leads=("x",), softs=(), owns=()):
    return (("fun", "f", leads, softs, owns, block, gives),)


def term_text(term):
    return written(fun(gives=(term,)))[len("fun f(x;)\n  give "):]


def term_read(text):
    return read("fun f(x;)\n  give " + text)[0][6]


class WrittenTest(unittest.TestCase):
    def test_first_lines(self):
        for leads, softs, owns, line in (
                ((), (), (), "fun f(;)"), (("x",), (), (), "fun f(x;)"), ((), ("a",), (), "fun f(; a)"),
                (("x", "y"), ("a", "b"), (), "fun f(x, y; a, b)"), ((), (), ("s",), "fun f(;) own s"),
                (("x",), ("a",), ("s", "t", "u"), "fun f(x; a) own s, t, u")):
            tree = fun(leads=leads, softs=softs, owns=owns)
            self.assertEqual(written(tree), line + "\n  give x")
            self.assertEqual(read(line + "\n  give x"), tree)

    def test_terms(self):
        for term, text in (
                (X, "x"), (("word", ""), '""'), (("word", "010"), '"010"'), (("put", X, "0"), "x + 0"),
                (("put", ("put", X, "0"), "1"), "x + 0 + 1"), (("cut", X), "cut x"),
                (("cut", ("word", "1")), 'cut "1"'), (("cut", ("cut", X)), "cut cut x"),
                (("put", ("cut", X), "1"), "cut x + 1"), (("cut", ("put", X, "1")), "cut (x + 1)"),
                (("cut", ("put", ("cut", ("put", X, "1")), "0")), "cut (cut (x + 1) + 0)"),
                (("call", "g", (), ()), "g(;)"), (("call", "g", (X,), ()), "g(x;)"),
                (("call", "g", (), (X,)), "g(; x)"), (("call", "g", (X, Y), (Y, X)), "g(x, y; y, x)"),
                (("put", ("call", "g", (("put", X, "1"),), (("cut", X), ("call", "h", (), ()))), "0"),
                 "g(x + 1; cut x, h(;)) + 0"),
                (("cut", ("call", "g", (X,), ())), "cut g(x;)")):
            self.assertEqual(term_text(term), text)
            self.assertEqual(term_read(text), (term,))

    def test_commands(self):
        let, put = ("let", "y", ("cut", X)), ("set", ("a", "b"), ("call", "g", (), ()))
        when = ("when", X, (let,), (), (put, let))
        block = (
            let, put, ("set", ("a",), X), when, ("when", ("put", X, "1"), (), (), ()),
            ("each", "x", "r", "l", ()), ("each", "x", "r", "l", (when, ("each", "y", "s", "m", (let,)))),
        )
        lines = [
            "fun f(x;)", "  let y = cut x", "  set a, b = g(;)", "  set a = x", "  when x", "    none",
            "      let y = cut x", "    one", "      set a, b = g(;)", "      let y = cut x", "  when x + 1",
            "  each x as r, l", "  each x as r, l", "    when x", "      none", "        let y = cut x", "      one",
            "        set a, b = g(;)", "        let y = cut x", "    each y as s, m", "      let y = cut x",
            "  give x, y",
        ]
        self.assertEqual(written(fun(block, (X, Y))).split("\n"), lines)
        self.assertEqual(read("\n".join(lines)), fun(block, (X, Y)))

    def test_branches_alone(self):
        let = ("let", "y", X)
        for at, word in enumerate(("none", "zero", "one")):
            blocks = [(), (), ()]
            blocks[at] = (let,)
            tree = fun((("when", X, *blocks),))
            text = "fun f(x;)\n  when x\n    " + word + "\n      let y = x\n  give x"
            self.assertEqual(written(tree), text)
            self.assertEqual(read(text), tree)

    def test_functions_and_the_empty_tree(self):
        self.assertEqual(written(()), "")
        self.assertEqual(read(""), ())
        tree = fun() + fun(gives=(Y, X)) + fun()
        text = "fun f(x;)\n  give x\nfun f(x;)\n  give y, x\nfun f(x;)\n  give x"
        self.assertEqual(written(tree), text)
        self.assertEqual(read(text), tree)

    def test_what_is_written_is_read_again(self):
        for seed in range(400):
            tree = TreeMaker(seed).tree()
            text = written(tree)
            self.assertEqual(read(text), tree)
            self.assertEqual(slow_read(text), tree)
            self.assertEqual(written(read(text)), text)

    def test_no_tree(self):
        for thing in ODD_VALUES + (fun()[0], list(fun()), X, "fun f(x;)\n  give x"):
            if thing != ():
                with self.assertRaises(BadTree) as caught:
                    written(thing)
                self.assertIs(caught.exception.thing, thing)

    def test_bent_trees(self):
        rng = random.Random(3)
        for seed in range(300):
            thing = bent(TreeMaker(seed).tree() + fun(), rng)
            if is_tree(thing):
                self.assertEqual(read(written(thing)), thing)
            else:
                with self.assertRaises(BadTree):
                    written(thing)


class ReadingTest(unittest.TestCase):
    PLAIN = (
        'fun f(x, y; a) own s, t\n  let z = cut (x + 0) + 1\n  set s, t = g(x, "01"; a, s)\n  when cut a\n'
        "    none\n      set s = a\n    one\n      each x as r, l\n        set a = a + 1\n  give s, t\n"
        "fun g(; a)\n  give a"
    )

    def same(self, text):
        self.assertEqual(read(text), read(self.PLAIN))
        self.assertEqual(slow_read(text), read(self.PLAIN))

    def test_no_blanks(self):
        self.same(
            'fun f(x,y;a)own s,t\n let z=cut(x+0)+1\n set s,t=g(x,"01";a,s)\n when cut a\n  none\n   set s=a\n'
            "  one\n   each x as r,l\n    set a=a+1\n give s,t\nfun g(;a)\n give a")

    def test_many_blanks(self):
        self.same(
            'fun   f (  x  ,  y  ;  a  )   own   s  ,  t   \n   let   z   =   cut   (   x   +   0   )   +   1  \n'
            '   set  s  ,  t  =  g  (  x  ,  "01"  ;  a  ,  s  )  \n   when   cut   a   \n     none   \n'
            "          set  s  =  a\n     one    \n      each   x   as   r   ,   l   \n           set  a  =  a  +  1 \n"
            "   give   s  ,  t    \nfun  g  (  ;  a  )  \n                give  a   ")

    def test_brackets(self):
        self.same(self.PLAIN.replace("cut (x + 0) + 1", "((cut ((((x) + 0)))) + 1)").replace(
            'g(x, "01"; a, s)', '(g((x), ("01"); (a), ((s))))').replace("when cut a", "when (cut (a))").replace(
            "give s, t", "give (s), ((t))").replace("give a", "give (a)"))

    def test_ninety_brackets(self):
        for many in (1, 20, 90):
            self.assertEqual(term_read("(" * many + "x" + ")" * many), (X,))
            self.assertEqual(term_read("(" * many + "x+1" + ")" * many + "+0"), (("put", ("put", X, "1"), "0"),))
            self.assertEqual(term_read("cut" + "(" * many + "cut x+1" + ")" * many),
                             (("cut", ("put", ("cut", X), "1")),))
        text = "g(" + "(" * 90 + "x" + ")" * 90 + ";" + "(" * 45 + "y" + ")" * 45 + ")"
        self.assertEqual(term_read(text), (("call", "g", (X,), (Y,)),))

    def test_brackets_tell_what_belongs_together(self):
        self.assertEqual(term_read("cut x + 0"), (("put", ("cut", X), "0"),))
        self.assertEqual(term_read("(cut x) + 0"), (("put", ("cut", X), "0"),))
        self.assertEqual(term_read("cut (x) + 0"), (("put", ("cut", X), "0"),))
        self.assertEqual(term_read("cut (x + 0)"), (("cut", ("put", X, "0")),))
        self.assertEqual(term_read("(x + 0) + 1"), (("put", ("put", X, "0"), "1"),))
        self.assertEqual(term_read("cut cut cut x"), (("cut", ("cut", ("cut", X))),))

    def test_remarks_and_empty_lines(self):
        lines = self.PLAIN.split("\n")
        self.same("\n".join(line + "# own (" for line in lines))
        self.same("\n".join(line + '  # "01 fun \t \xe9 # #' for line in lines))
        for extra in ("", "      ", "#", "             # give x", "# fun f(x;)", " # \t\r"):
            self.same(extra + "\n" + ("\n" + extra + "\n").join(lines) + "\n" + extra)
            self.same("\n\n" + "\n\n".join(lines) + "\n\n\n")

    def test_a_line_feed_at_the_end(self):
        self.same(self.PLAIN + "\n")
        self.same("\n\n" + self.PLAIN + "\n\n")
        for text in ("\n", "  ", " \n# x\n", "#", "\n\n\n   # fun"):
            self.assertEqual(read(text), ())

    def test_deeper_blocks(self):
        self.assertEqual(
            read("fun f(x;)\n     when x\n          none\n           let y = x\n           let z = x\n"
                 "          zero\n              let y = x\n     each x as r, l\n      let y = x\n     give x\n"
                 "fun f(x;)\n give x"),
            read("fun f(x;)\n  when x\n    none\n      let y = x\n      let z = x\n    zero\n      let y = x\n"
                 "  each x as r, l\n    let y = x\n  give x\nfun f(x;)\n  give x"))

    def test_branch_lines_without_lines_below(self):
        let = ("let", "y", X)
        for lines, when in (
                (["none"], ("when", X, (), (), ())), (["zero"], ("when", X, (), (), ())),
                (["none", "zero", "one"], ("when", X, (), (), ())), (["none", "one"], ("when", X, (), (), ())),
                (["none", " let y = x", "one"], ("when", X, (let,), (), ())),
                (["none", "zero", "one", "   let y = x"], ("when", X, (), (), (let,))),
                (["zero", " let y = x", " let y = x", "one"], ("when", X, (), (let, let), ())), ([], ("when", X, (), (), ()))):
            text = "\n".join(["fun f(x;)", "  when x"] + ["    " + line for line in lines] + ["  give x"])
            self.assertEqual(read(text), fun((when,)))

    def test_blocks_that_end_in_many_ways(self):
        let = ("let", "y", X)
        each = ("each", "x", "r", "l", ())
        self.assertEqual(read("fun f(x;)\n each x as r, l\n each x as r, l\n  each x as r, l\n let y = x\n give x"),
                         fun((each, ("each", "x", "r", "l", (each,)), let)))
        self.assertEqual(
            read("fun f(x;)\n when x\n  none\n   when x\n    one\n     when x\n  one\n   let y = x\n give x"),
            fun((("when", X, (("when", X, (), (), (("when", X, (), (), ()),)),), (), (let,)),)))
        self.assertEqual(read("fun f(x;)\n when x\n  none\n   each x as r, l\n    when x\n     zero\n give x"),
                         fun((("when", X, (("each", "x", "r", "l", (("when", X, (), (), ()),)),), (), ()),)))

    def test_names_and_kept_words_side_by_side(self):
        self.assertEqual(term_read("cutx"), (("name", "cutx"),))
        self.assertEqual(term_read("give1"), (("name", "give1"),))
        self.assertEqual(term_read('cut"1"'), (("cut", ("word", "1")),))
        self.assertEqual(read('fun f(x;)\n give"0",x')[0][6], (("word", "0"), X))
        self.assertEqual(read("fun f(x;)\n when(x)\n give(x)"), fun((("when", X, (), (), ()),)))
        self.assertEqual(term_read("cut(x)+1"), (("put", ("cut", X), "1"),))

    def test_at_the_limits(self):
        block = ()
        for k in range(9):
            block = (("when", X, (), block, ()),) if k % 2 else (("each", "x", "r", "l", block),)
        term = X
        for k in range(19):
            term = ("cut", term) if k % 3 else ("put", term, "1")
        tree = tuple(("fun", "f" + "o" * 19, ("x",), (), (), block, (term,)) for _ in range(20))
        self.assertEqual(read(written(tree)), tree)
        many = fun(tuple(("let", "x", X) for _ in range(298)))
        self.assertEqual(written(many).count("\n"), 299)
        self.assertEqual(read(written(many)), many)
        long = fun(gives=tuple(("word", "01" * 40) for _ in range(2)))
        self.assertEqual(read(written(long)), long)
        self.assertEqual(term_read(" + 1".join(["x"] * 1 + [""] * 45)), (self.puts(45),))

    def puts(self, many):
        term = X
        for _ in range(many):
            term = ("put", term, "1")
        return term
