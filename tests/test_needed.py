"""Needed names [6.1]."""

import unittest

from quicktongue.errors import BadPath, BadProgram
from quicktongue.simplify import needed_behind
from quicktongue.texts import read
from tests.slow import slow_commands
from tests.slowsteps import slow_needed
from tests.support import ODD_VALUES, ProgramMaker, sub_paths

TWO = "fun two(x; a, b)\n  give b, a\n"


class NeededTest(unittest.TestCase):
    def needed(self, text, *rows):
        """The last function of the text has these needed names behind its commands, in the order of the tree."""
        program = read(text)
        last = len(program) - 1
        paths = [path for path, _ in slow_commands(program[last][5], (last, 5))]
        self.assertEqual(len(paths), len(rows))
        slow = slow_needed(program, last)
        for path, row in zip(paths, rows):
            self.assertEqual(needed_behind(program, path), tuple(row.split()), path)
            self.assertEqual(slow[path], set(row.split()))

    def test_behind_the_last_command_what_the_gives_read(self):
        self.needed('fun f(x; a, b) own s, t\n  set t = ""\n  give cut (b + 1), x, "0", s', "b s")
        self.needed("fun f(x; a)\n  let y = x\n  give y", "")
        self.needed(TWO + "fun g(; a)\n  give a\nfun f(x; a, b) own s\n  let y = x\n  give g(; b), cut g(; g(; s))", "b s")

    def test_sets_one_after_the_other(self):
        self.needed("fun f(; a, b)\n  set a = b\n  set b = a\n  set a = b + 0\n  give a", "a", "b", "a")
        self.needed("fun f(; a, b)\n  set a = b\n  give b", "b")

    def test_a_set_that_is_overwritten(self):
        self.needed('fun f(; a, b)\n  set a = b\n  set a = "1"\n  give a', "", "a")
        self.needed('fun f(; a, b)\n  set a = b\n  set a = a + 1\n  give a', "a", "a")

    def test_reads_of_a_set_none_of_whose_names_is_needed(self):
        self.needed('fun f(; a, b) own s, t\n  set s = a\n  set t = s\n  set s = t\n  give b', "b", "b", "b")
        self.needed('fun f(; a, b) own s, t\n  set t = a\n  set s = t\n  give s', "t", "s")

    def test_sets_with_several_names(self):
        self.needed(TWO + "fun f(x; a, b) own s\n  let y = x\n  set a, b = two(y; s, a)\n  give b", "a s", "b")
        self.needed(TWO + "fun f(x; a, b) own s\n  let y = x\n  set a, b = two(y; s, a)\n  give a, b, s", "a s", "a b s")
        self.needed(TWO + "fun f(x; a, b) own s\n  let y = x\n  set a, b = two(y; s, a)\n  give s", "s", "s")

    def test_lets_change_nothing(self):
        self.needed("fun f(x; a)\n  let y = x\n  let z = cut y\n  set a = z\n  give a", "", "", "a")

    def test_the_three_blocks_of_a_when(self):
        self.needed('fun f(; a, b, c, d) own s\n  set s = ""\n  when d\n    none\n      set s = a\n    zero\n      set s = b\n'
                    "    one\n      set s = c\n  give s", "a b c d", "s", "s", "s", "s")
        self.needed('fun f(; a, b, d) own s\n  set s = ""\n  when d\n    zero\n      set s = b\n      set s = a\n  give s',
                    "a d s", "s", "a", "s")
        self.needed('fun f(; a, b, d) own s\n  set s = ""\n  when d + 1\n    zero\n      set a = b\n      set s = a\n  give s',
                    "b d s", "s", "a", "s")
        self.needed('fun f(; a, d) own s\n  set s = a\n  when "1"\n    none\n      set s = ""\n    zero\n      set s = ""\n'
                    '    one\n      set s = ""\n  give s', "", "s", "s", "s", "s")
        self.needed("fun f(; a, d) own s\n  set s = a\n  when d\n  give a", "a d", "a")

    def test_a_when_reads_its_term_even_if_nothing_of_it_is_needed(self):
        self.needed("fun f(; a, d) own s\n  set s = d\n  when s\n    one\n      set s = a\n  give a", "a s", "a", "a")

    def test_what_is_read_in_the_next_turn(self):
        self.needed("fun f(x; a) own s, t\n  each x as r, l\n    set t = s\n    set s = a\n  give t",
                    "t", "a t", "a s t")
        self.needed("fun f(x; a) own s, t\n  set t = a\n  each x as r, l\n    set t = s\n    set s = t\n  give t",
                    "s t", "t", "t", "s t")

    def test_what_only_feeds_itself_in_turns_is_not_needed(self):
        self.needed("fun f(x; a) own s, t\n  each x as r, l\n    set s = s + 1\n    set t = s\n    set s = t\n  give a",
                    "a", "a", "a", "a")

    def test_a_chain_through_many_turns(self):
        self.needed("fun f(x; a, b, c, d)\n  each x as r, l\n    set a = b\n    set b = c\n    set c = d\n  give a",
                    "a", "a c d", "a b d", "a b c d")

    def test_a_round_that_may_have_no_turn(self):
        self.needed('fun f(x; a, b)\n  set a = b\n  each x as r, l\n    set a = ""\n  give a', "a", "a", "a")

    def test_rounds_and_branches_within_one_another(self):
        self.needed("fun f(x; a, b) own s, t\n  each x as r, l\n    when a\n      zero\n        each r as q, m\n"
                    "          set s = t\n      one\n        set t = b\n  give s",
                    "s", "a b s t", "a b s t", "a b s t", "a b s t")
        self.needed("fun f(x; a, b) own s\n  each x as r, l\n    each r as q, m\n      set a = s\n    set s = b\n    set b = \"\"\n"
                    "  give a", "a", "a b", "a b s", "a s", "a b s")

    def test_blocks_without_commands(self):
        self.needed("fun f(x; a, b) own s\n  set s = b\n  each x as r, l\n  when s\n    one\n      each x as q, m\n  give a",
                    "a s", "a s", "a", "a")

    def test_many_programs(self):
        many = 0
        for seed in range(250):
            program = ProgramMaker(seed).program()
            for i in range(len(program)):
                for path, names in slow_needed(program, i).items():
                    self.assertEqual(needed_behind(program, path), tuple(sorted(names)))
                    many += bool(names)
        self.assertGreater(many, 300)

    def test_deep_rounds(self):
        lines = ["fun f(x;) own " + ", ".join("s%d" % k for k in range(20))]
        for k in range(9):
            lines.append("  " * (k + 1) + "each x as r%d, l%d" % (k, k))
        lines += ["  " * 10 + "set s%d = s%d" % (k, k + 1) for k in range(19)] + ["  give s0"]
        program = read("\n".join(lines))
        every = tuple(sorted("s%d" % k for k in range(20)))
        self.assertEqual(needed_behind(program, (0, 5, 0) + (4, 0) * 8 + (4, 18)), every)
        self.assertEqual(needed_behind(program, (0, 5, 0) + (4, 0) * 9), tuple(name for name in every if name != "s1"))
        self.assertEqual(needed_behind(program, (0, 5, 0, 4, 0)), every)
        self.assertEqual(needed_behind(program, (0, 5, 0)), ("s0",))


class BadPathTest(unittest.TestCase):
    PROGRAM = read("fun f(x; a)\n  each x as r, l\n    set a = a + 1\n  when a\n    one\n      let y = x\n  give a")

    def test_whatever_is_no_command(self):
        commands = {path for path, _ in slow_commands(self.PROGRAM[0][5], (0, 5))}
        self.assertEqual(len(commands), 4)
        for path in sub_paths(self.PROGRAM):
            if path in commands:
                self.assertEqual(needed_behind(self.PROGRAM, path), ("a",))
            else:
                self.bad(path)

    def bad(self, path):
        with self.assertRaises(BadPath) as caught:
            needed_behind(self.PROGRAM, path)
        self.assertIs(caught.exception.thing, path)

    def test_values_that_are_no_path(self):
        for path in ODD_VALUES + (
                [0, 5, 0], (0, 5, False), (False, 5, 0), (0, 5, -1), (-1, 5, 0), (0, 5, 2), (1, 5, 0), (0, "5", 0), (0, 5, 0, 4),
                (0, 5, 0, 4, True), (0, 5, (0,)), (10 ** 39, 5, 0), "050", (0, 5, 0.0), ((0, 5, 0),), (0, 5, 0, 4, 0, 0)):
            self.bad(path)

    def test_the_program_comes_first(self):
        with self.assertRaises(BadProgram) as caught:
            needed_behind("no program", "no path")
        self.assertEqual(caught.exception.thing, "no program")
