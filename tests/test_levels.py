"""Names in scope, faults and programs [2.1 to 2.3]."""

import random
import unittest

from quicktongue.errors import BadPath, BadTree
from quicktongue.levels import is_program, judge_levels, levels_hold, names_at
from quicktongue.texts import read
from quicktongue.trees import is_tree
from tests.slow import slow_faults, slow_places, slow_scope
from tests.support import ODD_VALUES, ProgramMaker, TreeMaker, bent, sub_paths

GROW = "fun marks(x; a)\n  each x as r, l\n    set a = a + 1\n  give a\n"
TWO = "fun two(x; a)\n  give a, x\n"


class FaultsTest(unittest.TestCase):
    def faults(self, text, *faults):
        """The tree of the text has just these faults."""
        tree = read(text)
        self.assertEqual(slow_faults(tree), set(faults))
        self.assertIs(is_program(tree), not faults)
        self.assertIs(levels_hold(tree, ("fit",)), not faults)
        self.assertIn(judge_levels(tree), faults or [("fit",)])
        for fault in faults:
            self.assertIs(levels_hold(tree, fault), True, fault)
            self.bent_do_not_hold(tree, fault, faults)
        paths = list(sub_paths(tree))
        for path in paths:
            for kind in ("twice", "unknown", "call"):
                self.assertIs(levels_hold(tree, (kind, path)), (kind, path) in faults)
            for inner in paths if len(paths) < 80 else ():
                self.assertIs(levels_hold(tree, ("level", path, inner)), ("level", path, inner) in faults)

    def bent_do_not_hold(self, tree, fault, faults):
        path = fault[1]
        for other in (
                list(fault), fault[:1] + (list(path),) + fault[2:], fault + (path,), fault[:1], fault[:-1],
                fault[:1] + (path + (0,),) + fault[2:], fault[:1] + (path[:-1],) + fault[2:], (fault,), None, path,
                fault[:1] + (path[:-1] + (str(path[-1]),),) + fault[2:], fault[:1] + ((-1,) + path[1:],) + fault[2:],
                ([fault[0]],) + fault[1:]):
            self.assertIs(levels_hold(tree, other), other in faults, other)
        for at, number in enumerate(path):
            if number in (0, 1):
                changed = path[:at] + (bool(number),) + path[at + 1:]
                self.assertIs(levels_hold(tree, (fault[0], changed) + fault[2:]), False)
                self.assertIs(levels_hold(tree, (fault[0], path) + (changed,)), False)

    def test_no_fault(self):
        self.faults("")
        self.faults(GROW)
        self.faults(GROW + TWO + "fun f(x, y; a, b) own s\n  let z = marks(cut x; y)\n  set a, s = two(z; marks(y; b))\n"
                    "  when a\n    one\n      each z as r, l\n        set b = a\n  give z, s, b")

    def test_function_names_twice(self):
        one = "fun f(x;)\n  give x\n"
        self.faults(one + one, ("twice", (1, 1)))
        self.faults(one + GROW + one + one, ("twice", (2, 1)), ("twice", (3, 1)))

    def test_own_names_twice(self):
        self.faults("fun f(x, x;)\n  give x", ("twice", (0, 2, 1)))
        self.faults("fun f(; a, b, a)\n  give b", ("twice", (0, 3, 2)))
        self.faults("fun f(;) own s, s, s\n  give s", ("twice", (0, 4, 1)), ("twice", (0, 4, 2)))
        self.faults("fun f(x; a, x)\n  give a", ("twice", (0, 3, 1)))
        self.faults("fun f(x; a) own a, x\n  give a", ("twice", (0, 4, 0)), ("twice", (0, 4, 1)))

    def test_names_that_are_let_twice(self):
        self.faults('fun f(x; a)\n  let y = "0"\n  let x = "0"\n  let a = "1"\n  let y = ""\n  give y',
                    ("twice", (0, 5, 1, 1)), ("twice", (0, 5, 2, 1)), ("twice", (0, 5, 3, 1)))
        self.faults('fun f(; a)\n  when a\n    none\n      let y = "0"\n    zero\n      let y = "0"\n  give a',
                    ("twice", (0, 5, 0, 3, 0, 1)))

    def test_rest_and_letter_twice(self):
        self.faults("fun f(x;)\n  each x as r, r\n  give x", ("twice", (0, 5, 0, 3)))
        self.faults("fun f(x; a)\n  each x as x, a\n  give x", ("twice", (0, 5, 0, 2)), ("twice", (0, 5, 0, 3)))
        self.faults("fun f(x;)\n  each x as r, l\n    each r as l, m\n  each x as m, n\n    let r = n\n  give x",
                    ("twice", (0, 5, 0, 4, 0, 2)), ("twice", (0, 5, 1, 2)), ("twice", (0, 5, 1, 4, 0, 1)))
        self.faults("fun f(x;)\n  each x as r, l\n    let r = x\n  let l = x\n  give x",
                    ("twice", (0, 5, 0, 4, 0, 1)), ("twice", (0, 5, 1, 1)))

    def test_names_of_a_set_twice(self):
        self.faults(TWO + 'fun f(x; a, b)\n  set a, a = two(x; b)\n  give a', ("twice", (1, 5, 0, 1, 1)))
        self.faults("fun f(; a, b)\n  set a, b, a, a = b\n  give a",
                    ("twice", (0, 5, 0, 1, 2)), ("twice", (0, 5, 0, 1, 3)), ("call", (0, 5, 0, 2)))

    def test_unknown_names(self):
        self.faults("fun f(x;)\n  give y, cut (z + 0)", ("unknown", (0, 6, 0)), ("unknown", (0, 6, 1, 1, 1)))
        self.faults("fun f(x;)\n  each y as r, l\n  give x", ("unknown", (0, 5, 0, 1)))
        self.faults('fun f(x; a)\n  set b = ""\n  give x', ("unknown", (0, 5, 0, 1, 0)))
        self.faults(TWO + "fun f(x; a)\n  set b, a, c = two(y; z)\n  give x", ("unknown", (1, 5, 0, 1, 0)),
                    ("unknown", (1, 5, 0, 1, 2)), ("unknown", (1, 5, 0, 2, 2, 0)), ("unknown", (1, 5, 0, 2, 3, 0)),
                    ("call", (1, 5, 0, 2)))

    def test_unknown_before_a_let_and_behind_its_block(self):
        self.faults('fun f(; a)\n  set a = y\n  let y = cut y\n  set a = y\n  give y',
                    ("unknown", (0, 5, 0, 2)), ("unknown", (0, 5, 1, 2, 1)))
        self.faults('fun f(; a)\n  when a\n    none\n      let y = ""\n      set a = y\n    zero\n      set a = y\n'
                    "  set a = y\n  give y",
                    ("unknown", (0, 5, 0, 3, 0, 2)), ("unknown", (0, 5, 1, 2)), ("unknown", (0, 6, 0)))
        self.faults("fun f(x; a)\n  each x as r, l\n    let y = l\n    set a = r\n  each r as s, m\n  give l, y",
                    ("unknown", (0, 5, 1, 1)), ("unknown", (0, 6, 0)), ("unknown", (0, 6, 1)))

    def test_names_of_another_function_are_unknown(self):
        self.faults(GROW + "fun f(;)\n  give x", ("unknown", (1, 6, 0)))

    def test_calls_of_the_function_itself_a_later_one_and_none(self):
        self.faults("fun f(x;)\n  give f(x;), g(x;), h(x;)\nfun g(x;)\n  give f(x;)\n",
                    ("call", (0, 6, 0)), ("call", (0, 6, 1)), ("call", (0, 6, 2)), ("call", (1, 6, 0)))
        self.faults("fun f(x;)\n  give x\nfun g(x;)\n  give f(x;), g(x;), f(g(x;);)",
                    ("call", (1, 6, 1)), ("call", (1, 6, 2, 2, 0)))

    def test_of_several_functions_of_one_name_the_first_counts(self):
        self.faults("fun f(x;)\n  give x\nfun f(;)\n  give f(\"\";), f(;)\nfun g(;)\n  give f(;), f(\"\";)",
                    ("twice", (1, 1)), ("call", (1, 6, 1)), ("call", (2, 6, 0)))

    def test_numbers_of_arguments(self):
        self.faults(GROW + "fun g(x; b)\n  give marks(x; b), marks(; b), marks(x;), marks(x, x; b), marks(x; b, b)",
                    ("call", (1, 6, 1)), ("call", (1, 6, 2)), ("call", (1, 6, 3)), ("call", (1, 6, 4)))
        self.faults(GROW + "fun g(x;)\n  give marks(; x, x)", ("call", (1, 6, 0)))

    def test_several_gives(self):
        self.faults(TWO + "fun g(x; a, b, c)\n  set a, b = two(x; a)\n  set a = two(x; a)\n  set a, b, c = two(x; a)\n"
                    "  set b = two(x; a) + 0\n  give two(x; a)",
                    ("call", (1, 5, 1, 2)), ("call", (1, 5, 2, 2)), ("call", (1, 5, 3, 2, 1)), ("call", (1, 6, 0)))
        self.faults(TWO + "fun g(x; a, b)\n  let y = two(x; \"\")\n  when two(x; a)\n  set a, b = two(two(x; \"\"); a)\n"
                    "  give a", ("call", (1, 5, 0, 2)), ("call", (1, 5, 1, 1)), ("call", (1, 5, 2, 2, 2, 0)))

    def test_terms_of_a_set_with_several_names(self):
        self.faults(GROW + TWO + 'fun g(x; a, b)\n  set a, b = x\n  set a, b = ""\n  set a, b = cut two(x; a)\n'
                    "  set a, b = marks(x; a)\n  set a, b = two(x;)\n  set a, b = g(x; a)\n  give a",
                    ("call", (2, 5, 0, 2)), ("call", (2, 5, 1, 2)), ("call", (2, 5, 2, 2)), ("call", (2, 5, 2, 2, 1)),
                    ("call", (2, 5, 3, 2)), ("call", (2, 5, 4, 2)), ("call", (2, 5, 5, 2)))
        self.faults(TWO + "fun g(x; a, b) own c\n  set a, b, c = two(x; a)\n  give a", ("call", (1, 5, 0, 2)))

    def test_levels_of_lets(self):
        self.faults("fun f(x; a) own s\n  let y = cut (a + 0)\n  let z = s\n  let u = x\n  give u",
                    ("level", (0, 5, 0, 2), (0, 5, 0, 2, 1, 1)), ("level", (0, 5, 1, 2), (0, 5, 1, 2)))
        self.faults(GROW + "fun f(x; a)\n  let y = marks(x; a)\n  give y",
                    ("level", (1, 5, 0, 2), (1, 5, 0, 2, 3, 0)))

    def test_levels_of_leading_arguments(self):
        self.faults(GROW + "fun f(x; a)\n  give marks(cut a; a), marks(x; marks(a; x))",
                    ("level", (1, 6, 0, 2, 0), (1, 6, 0, 2, 0, 1)),
                    ("level", (1, 6, 1, 3, 0, 2, 0), (1, 6, 1, 3, 0, 2, 0)))
        inner = (1, 5, 0, 2, 2, 0, 3, 0)
        self.faults(GROW + "fun f(x; a)\n  let y = marks(marks(x; a); x)\n  give y",
                    ("level", (1, 5, 0, 2), inner), ("level", (1, 5, 0, 2, 2, 0), inner))
        self.faults("fun f(x; a)\n  give g(a; a)", ("call", (0, 6, 0)), ("level", (0, 6, 0, 2, 0), (0, 6, 0, 2, 0)))

    def test_levels_of_leaders_and_of_names_that_are_set(self):
        self.faults("fun f(x; a) own s\n  each a as r, l\n  each s as p, q\n    each p as t, u\n  give x",
                    ("level", (0, 5, 0, 1), (0, 5, 0, 1)), ("level", (0, 5, 1, 1), (0, 5, 1, 1)))
        self.faults('fun f(x; a)\n  let y = x\n  set x = ""\n  set y = ""\n  each x as r, l\n    set r = ""\n'
                    '    set l = a\n  give x',
                    ("level", (0, 5, 1, 1, 0), (0, 5, 1, 1, 0)), ("level", (0, 5, 2, 1, 0), (0, 5, 2, 1, 0)),
                    ("level", (0, 5, 3, 4, 0, 1, 0), (0, 5, 3, 4, 0, 1, 0)),
                    ("level", (0, 5, 3, 4, 1, 1, 0), (0, 5, 3, 4, 1, 1, 0)))
        self.faults("fun f(x; a)\n  set y = a\n  let y = x\n  give y", ("unknown", (0, 5, 0, 1, 0)))

    def test_a_name_in_scope_both_ways_counts_as_soft(self):
        self.faults('fun f(x; x)\n  set x = ""\n  each x as r, l\n  let y = x\n  give x', ("twice", (0, 3, 0)),
                    ("level", (0, 5, 1, 1), (0, 5, 1, 1)), ("level", (0, 5, 2, 2), (0, 5, 2, 2)))
        self.faults('fun f(; a)\n  let a = ""\n  set a = a\n  let y = a\n  give y', ("twice", (0, 5, 0, 1)),
                    ("level", (0, 5, 2, 2), (0, 5, 2, 2)))

    def test_all_faults_of_many_trees(self):
        for seed in range(300):
            tree = TreeMaker(seed).tree()
            faults = slow_faults(tree)
            self.assertIs(is_program(tree), not faults)
            self.assertIn(judge_levels(tree), faults or {("fit",)})
            for fault in faults or {("fit",)}:
                self.assertIs(levels_hold(tree, fault), True)
            for path in list(sub_paths(tree))[::3]:
                for thing in (("twice", path), ("unknown", path), ("call", path), ("level", path, path)):
                    self.assertIs(levels_hold(tree, thing), thing in faults)

    def test_any_values(self):
        rng = random.Random(5)
        for thing in ODD_VALUES:
            self.assertIs(is_program(thing), thing == ())
            self.assertIs(levels_hold(read(GROW), thing), thing == ("fit",) and isinstance(thing, tuple))
            if thing != ():
                for call in (judge_levels, lambda tree: levels_hold(tree, ("fit",)), lambda tree: names_at(tree, ())):
                    with self.assertRaises(BadTree) as caught:
                        call(thing)
                    self.assertIs(caught.exception.thing, thing)
        for seed in range(200):
            thing = bent(ProgramMaker(seed).program(), rng)
            self.assertIs(is_program(thing), is_tree(thing) and not slow_faults(thing))

    def test_made_programs(self):
        for seed in range(100):
            program = ProgramMaker(seed).program()
            self.assertIs(is_program(program), True)
            self.assertEqual(judge_levels(program), ("fit",))


class NamesAtTest(unittest.TestCase):
    TREE = read(
        "fun f(x; a) own s\n  let y = x\n  each x as r, l\n    let z = l\n    set a = z\n  when cut a\n    zero\n"
        "      let u = x\n      set s = u\n    one\n      set s = g(x, y; a)\n  let v = y\n  give v, cut s\nfun g(; b)\n  give b")

    def test_scopes(self):
        for path, names in (
                ((0, 5, 0), "x"), ((0, 5, 0, 2), "x"), ((0, 5, 1), "x y"), ((0, 5, 1, 4, 0), "l r x y"),
                ((0, 5, 1, 4, 0, 2), "l r x y"), ((0, 5, 1, 4, 1), "l r x y z"), ((0, 5, 1, 4, 1, 2), "l r x y z"),
                ((0, 5, 2), "x y"), ((0, 5, 2, 1, 1), "x y"), ((0, 5, 2, 3, 0), "x y"), ((0, 5, 2, 3, 1, 2), "u x y"),
                ((0, 5, 2, 4, 0, 2), "x y"), ((0, 5, 2, 4, 0, 2, 2, 1), "x y"), ((0, 5, 2, 4, 0, 2, 3, 0), "x y"),
                ((0, 5, 3), "x y"), ((0, 5, 3, 2), "x y"), ((0, 6, 0), "v x y"), ((0, 6, 1, 1), "v x y")):
            self.assertEqual(names_at(self.TREE, path), (tuple(names.split()), ("a", "s")), path)
        self.assertEqual(names_at(self.TREE, (1, 6, 0)), ((), ("b",)))

    def test_trees_with_faults(self):
        tree = read('fun f(x, x; a, y) own x, a\n  let y = a\n  let b = y\n  let b = ""\n  each q as r, r\n    let a = r\n'
                    "    give\n  give b".replace("    give\n", "    let p = r\n"))
        self.assertEqual(names_at(tree, (0, 5, 0)), ((), ("a", "x", "y")))
        self.assertEqual(names_at(tree, (0, 5, 3)), (("b",), ("a", "x", "y")))
        self.assertEqual(names_at(tree, (0, 5, 3, 4, 1, 2)), (("b", "r"), ("a", "x", "y")))
        self.assertEqual(names_at(tree, (0, 6, 0)), (("b",), ("a", "x", "y")))

    def test_all_places_of_many_trees(self):
        for seed in range(150):
            tree = TreeMaker(seed).tree()
            places = slow_places(tree)
            for path in list(sub_paths(tree)) + [(9,), (0, 5, 9), (0, 6, 9), (0, 7)]:
                if path in places:
                    leads, softs = slow_scope(tree, path)
                    self.assertEqual(names_at(tree, path), (tuple(sorted(leads)), tuple(sorted(softs))))
                else:
                    with self.assertRaises(BadPath) as caught:
                        names_at(tree, path)
                    self.assertIs(caught.exception.thing, path)

    def test_what_is_no_path_of_a_term_or_command(self):
        tree = read("fun f(x; name) own x1\n  set name, x = x\n  give x")
        self.assertEqual(tree[0][5][0][1], ("name", "x"))
        for path in ODD_VALUES + (
                (), (0,), (0, 1), (0, 2), (0, 2, 0), (0, 5), (0, 5, 0, 0), (0, 5, 0, 1), (0, 5, 0, 1, 0), (0, 5, 0, 2, 1),
                (0, 6), (0, 6, 0, 1), (0, 6, 1), (1,), (1, 5, 0), (-1, 5, 0), (0, -1, 0), (0, 5, -1), (False, 5, 0),
                (0, 5, False), [0, 5, 0], (0, "5", 0), (0, (5,), 0), (None,), "056", (10 ** 39, 5, 0)):
            with self.assertRaises(BadPath) as caught:
                names_at(tree, path)
            self.assertIs(caught.exception.thing, path)
        self.assertEqual(names_at(tree, (0, 5, 0)), (("x",), ("name", "x1")))
        self.assertEqual(names_at(tree, (0, 5, 0, 2)), (("x",), ("name", "x1")))

    def test_the_tree_comes_first(self):
        with self.assertRaises(BadTree):
            names_at(None, None)


class LimitsTest(unittest.TestCase):
    def test_at_the_limits(self):
        block = (("set", ("a",), ("name", "x")),)
        for k in range(18):
            names = ("r" + str(k), "l" + str(k))
            block = (("when", ("name", "a"), (), block, ()),) if k % 2 else (("each", "x") + names + (block,),)
        tree = tuple(("fun", "f" + str(k), ("x",), ("a",), (), block, (("name", "a"),)) for k in range(30))
        self.assertIs(is_program(tree), True)
        path = (29, 5, 0) + (3, 0, 4, 0) * 8 + (3, 0)
        leads = tuple(sorted(["x"] + [side + str(k) for side in "rl" for k in range(2, 18, 2)]))
        self.assertEqual(names_at(tree, path), (leads, ("a",)))
        self.assertIs(is_program(tree + tree[:1]), False)
