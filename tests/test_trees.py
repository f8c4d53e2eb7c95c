"""Words and trees [1.1, 1.2]."""

import random
import unittest

from quicktongue.trees import is_command, is_name, is_term, is_tree, is_word
from tests.support import KEPT_WORDS, ODD_VALUES, TreeMaker, bent, sub_paths

X = ("name", "x")
TERMS = (
    X, ("word", ""), ("word", "0110"), ("put", X, "0"), ("put", X, "1"), ("cut", X), ("call", "f", (), ()),
    ("call", "f", (X, ("word", "")), (("cut", X),)), ("cut", ("put", ("cut", X), "1")),
)
COMMANDS = (
    ("let", "x", X), ("set", ("x",), X), ("set", ("x", "y", "x"), X), ("when", X, (), (), ()),
    ("when", X, (("let", "x", X),), (("set", ("x",), X), ("let", "y", X)), ()), ("each", "x", "r", "l", ()),
    ("each", "x", "x", "x", (("let", "x", X), ("each", "x", "r", "l", ()))),
)
FUNCTIONS = (
    ("fun", "f", (), (), (), (), (X,)), ("fun", "f", ("x", "y"), ("z",), ("u", "v"), COMMANDS, TERMS),
)
STRANGE = tuple(thing for thing in ODD_VALUES if not isinstance(thing, (str, tuple)))


class WordsTest(unittest.TestCase):
    def test_words(self):
        for word in ("", "0", "1", "01", "0" * 2000, "10" * 700):
            self.assertIs(is_word(word), True)

    def test_other_things(self):
        for thing in ("0120", "o", " ", "0 1", "01\n", "\n", "'0'", b"01", "\uff10", "a") + STRANGE + ((), ("0",)):
            self.assertIs(is_word(thing), False, thing)


class NamesTest(unittest.TestCase):
    def test_names(self):
        for name in ("a", "z", "x_1", "a" * 20, "z9_", "a__", "name", "word", "put", "call", "raw"):
            self.assertIs(is_name(name), True, name)

    def test_other_things(self):
        others = ("", "A", "_", "_a", "0", "9a", "aB", "a b", "a-b", "a.b", "a\n", " a", "a ", "\xe9", "a\xe9",
                  "a\u0661", "a" * 21, "a" * 3000)
        for thing in others + STRANGE + ((), ("a",)):
            self.assertIs(is_name(thing), False, thing)

    def test_the_twelve_words(self):
        self.assertEqual(len(set(KEPT_WORDS)), 12)
        for word in KEPT_WORDS:
            self.assertIs(is_name(word), False, word)
            self.assertIs(is_name(word[:-1] + word[-1].upper()), False)
            for end in ("s", "0", "_", "x" * (20 - len(word))):
                self.assertIs(is_name(word + end), True, word + end)


class TreesTest(unittest.TestCase):
    def test_right_ones(self):
        for term in TERMS:
            self.assertIs(is_term(term), True, term)
            self.assertIs(is_command(term), False, term)
        for command in COMMANDS:
            self.assertIs(is_command(command), True, command)
            self.assertIs(is_term(command), False, command)
        for many in range(4):
            self.assertIs(is_tree(FUNCTIONS * many), True)
        for function in FUNCTIONS:
            self.assertIs(is_term(function) or is_command(function) or is_tree(function), False)

    def test_parts_left_out_twice_exchanged_or_put_as_something_else(self):
        for right, whether in (
                [(term, is_term) for term in TERMS] + [(command, is_command) for command in COMMANDS]
                + [((function,), lambda thing: is_tree((thing[0],))) for function in FUNCTIONS]):
            function = whether not in (is_term, is_command)
            thing = right[0] if function else right
            for changed in self.changes(thing):
                self.assertIs(whether((changed,) if function else changed), False, changed)

    def changes(self, thing):
        """Wrong things, made from a right term, command or function."""
        yield list(thing)
        yield thing + (thing[-1],)
        yield thing + (None,)
        yield (thing,)
        yield ()
        for at, part in enumerate(thing):
            yield thing[:at] + thing[at + 1:]
            yield thing[:at] + (part, part) + thing[at + 1:]
            for other in STRANGE + ("", "X", ("X",), (("x",),), ("",), ("a b",), (None,), [part]):
                if not isinstance(part, str) or other != "" or thing[0] != "word":
                    yield thing[:at] + (other,) + thing[at + 1:]
            if isinstance(part, tuple) and part:
                yield thing[:at] + (list(part),) + thing[at + 1:]

    def test_exchanged_parts(self):
        for thing in (("name", "name"), ("x", "name"), (X, "put", "0"), ("put", "0", X), ("put", X, 0), ("put", X, 1),
                      ("put", X, ""), ("put", X, "01"), ("put", X, True), ("call", (), "f", ()), ("cut", X, X),
                      ("call", "f", X, ()), ("call", "f", (), X), ("call", "cut", (), ()), ("word", "2"),
                      ("word", 0), ("word", None), ("name", "set"), ("ask", "f", ()), ("ask", "f", (), ())):
            self.assertIs(is_term(thing), thing == ("name", "name"), thing)
        for thing in (("let", X, "x"), ("let", ("x",), X), ("set", (), X), ("set", "x", X), ("set", ("x",), ()),
                      ("set", X, ("x",)), ("when", (), (), (), ()), ("when", X, (), ()), ("when", (), X, (), ()),
                      ("when", X, X, (), ()), ("when", X, (), (), (), ()), ("each", X, "r", "l", ()),
                      ("each", "x", "r", "l", X), ("each", "x", "r", (), "l"), ("each", "x", "r", ()),
                      ("each", "x", "r", "zero", ()), ("give", X), ("each", ("x",), "r", "l", ())):
            self.assertIs(is_command(thing), False, thing)
        for function in (
                ("fun", "f", (), (), (), (), ()), ("fun", "f", (), (), (), (), X), ("fun", "f", (), (), (X,), ()),
                ("fun", "f", ("x", "own"), (), (), (), (X,)), ("fun", "f", (), (), (), X, (X,)),
                ("fun", "f", (), (), (), (), (X,), ()), ("fun", "one", (), (), (), (), (X,)),
                ("raw", "f", (), (), (), (), (X,)), ("raw", "f", (), (), (), (X,)), ("fun", "f", (), (), (), (X,))):
            self.assertIs(is_tree((function,)), False, function)
            self.assertIs(is_tree((FUNCTIONS[0], function)), False, function)

    def test_a_tuple_of_names_can_look_like_a_term(self):
        self.assertIs(is_command(("set", ("name", "x"), X)), True)
        self.assertIs(is_term(("name", "name")), True)

    def test_any_values(self):
        for thing in ODD_VALUES:
            looks = (is_term(thing), is_command(thing), is_tree(thing))
            self.assertEqual(looks.count(True), int(thing in (
                (), ("name", "x"), ("word", ""), ("call", "f", (), ()), ("set", ("x",), X))), thing)
            self.assertIs(is_tree((thing,)), thing == ("fun", "f", (), (), (), (), (("word", ""),)))

    def test_bools_lists_and_none_anywhere(self):
        for seed in range(60):
            tree = TreeMaker(seed).tree()
            self.assertIs(is_tree(tree), True)
            for path in sub_paths(tree):
                for put in ("list", None, True, 0, {}):
                    changed = self.with_part(tree, path, put)
                    self.assertIs(is_tree(changed), False, changed)

    def with_part(self, thing, path, put):
        if not path:
            part = list(thing) if isinstance(thing, tuple) else [thing]
            return part if put == "list" else put
        inner = self.with_part(thing[path[0]], path[1:], put)
        return thing[:path[0]] + (inner,) + thing[path[0] + 1:]

    def test_bent_values_never_raise(self):
        rng = random.Random(1)
        for seed in range(300):
            thing = bent(bent(TreeMaker(seed).tree(), rng), rng) if seed % 2 else bent(FUNCTIONS, rng)
            for whether in (is_word, is_name, is_term, is_command, is_tree):
                self.assertIn(whether(thing), (True, False))

    def test_at_the_limits(self):
        term, block = X, ()
        for k in range(20):
            term = (("cut", term), ("put", term, "1"), ("call", "f", (term,), (X, X)))[k % 3]
            block = (("when", X, (), block, ()),) if k % 2 else (("each", "x", "r", "l", block),)
        tree = tuple(("fun", "f" + str(k), ("x",), (), (), block, (term,)) for k in range(30))
        self.assertIs(is_tree(tree), True)
        self.assertIs(is_tree(tree[:-1] + (tree[-1][:-1] + (((X,),),),)), False)
