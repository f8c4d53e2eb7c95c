"""Steps of the simplifier [6.2]."""

import random
import unittest

from quicktongue.bounds import bounds
from quicktongue.errors import BadProgram, BadStep
from quicktongue.levels import is_program
from quicktongue.meaning import run
from quicktongue.simplify import behind_step, is_step, simplified, simplifying, steps_from
from quicktongue.texts import read, written
from tests.slow import slow_places
from tests.slowsteps import slow_steps
from tests.support import ODD_VALUES, ProgramMaker, at_path, bent
from tests.unitmaker import word

KINDS = ("choice", "copy", "dead", "known", "same")
G = "fun g(x; a)\n  give a\n"
TWO = "fun two(x; a, b)\n  give b, a\n"


def value(poly, lengths):
    total = 0
    for exponents, coefficient in poly:
        for exponent, length in zip(exponents, lengths):
            coefficient *= length ** exponent
        total += coefficient
    return total


def at_most(one, other):
    """Whether each coefficient of each polynomial of a table is at most that of another table."""
    pairs = [(dict(p), dict(q)) for first, second in zip(one, other) for p, q in zip(first, second)]
    return len(one) == len(other) and all(p[e] <= q.get(e, 0) for p, q in pairs for e in p)


class StepsTest(unittest.TestCase):
    def steps(self, text, *told):
        """The text has just these steps; for some the text behind them is told."""
        program = read(text)
        found = steps_from(program)
        self.assertEqual(found, tuple(sorted(step[:2] for step in told)))
        self.assertEqual(set(found), slow_steps(program, set(slow_places(program))))
        for step in told:
            self.assertIs(is_step(program, step[:2]), True)
            if len(step) > 2:
                self.assertEqual(written(behind_step(program, step[:2])), step[2])
        for kind in KINDS:
            for path in slow_places(program):
                self.assertIs(is_step(program, (kind, path)), (kind, path) in found)

    def test_no_steps(self):
        self.steps("")
        self.steps(G + "fun f(x, y; a) own s\n  let z = cut x\n  set s = g(z; a + 1)\n  when cut a\n    zero\n      set a = s\n"
                   "  each y as r, l\n    set a = l\n  give a, cut (g(x; a))")

    def test_choice(self):
        lines = "    none\n      set a = x\n      set a = cut a\n    zero\n      set a = y\n  give a"
        behind = {"none": "fun f(x, y; a)\n  set a = x\n  set a = cut a\n  give a",
                  "zero": "fun f(x, y; a)\n  set a = y\n  give a", "one": "fun f(x, y; a)\n  give a"}
        for term, branch in (('""', "none"), ('"0"', "zero"), ('"10"', "zero"), ('"01"', "one"), ("a + 0", "zero"),
                             ("x + 1", "one"), ('g(x; a) + 0', "zero"), ("cut a + 1", "one")):
            text = G + "fun f(x, y; a)\n  when " + term + "\n" + lines
            self.steps(text, ("choice", (1, 5, 0), G + behind[branch]))
        for term in ("a", "x", "cut a", "cut x", "g(x; a)"):
            self.steps(G + "fun f(x, y; a)\n  when " + term + "\n" + lines)

    def test_choice_of_a_known_or_the_same_term(self):
        text = "fun f(x; a)\n  when %s\n    one\n      set a = x\n  give a"
        self.steps(text % '"1" + 0', ("choice", (0, 5, 0), "fun f(x; a)\n  give a"),
                   ("known", (0, 5, 0, 1), text % '"10"'))
        self.steps(text % 'cut "10"', ("known", (0, 5, 0, 1), text % '"1"'))
        self.steps(text % "cut (a + 1)", ("same", (0, 5, 0, 1), text % "a"))

    def test_choice_within_other_blocks_and_among_other_commands(self):
        text = ("fun f(x; a)\n  set a = a + 1\n  each x as r, l\n    set a = x\n    when a + 1\n      zero\n"
                "        set a = r\n      one\n        let y = l\n        set a = y\n    set a = cut a\n  give a")
        self.steps(text.replace("    set a = x\n", ""), ("choice", (0, 5, 1, 4, 0), text.replace(
            "    set a = x\n", "").replace("    when a + 1\n      zero\n        set a = r\n      one\n", "").replace(
                "        let", "    let").replace("        set", "    set")),
            ("copy", (0, 5, 1, 4, 0, 4, 1, 2)))

    def test_a_when_can_be_chosen_and_dead(self):
        self.steps('fun f(x; a)\n  when "0"\n  give a', ("choice", (0, 5, 0), "fun f(x; a)\n  give a"),
                   ("dead", (0, 5, 0), "fun f(x; a)\n  give a"))

    def test_copy(self):
        text = "fun f(x; a)\n  let y = x\n  set a = %s\n  give a, %s"
        self.steps(text % ("cut (cut y)", "x"), ("copy", (0, 5, 1, 2, 1, 1), text % ("cut cut x", "x")))
        self.steps(text % ("y", "cut y"), ("copy", (0, 5, 1, 2), text % ("x", "cut y")),
                   ("copy", (0, 6, 1, 1), text % ("y", "cut x")))
        self.steps("fun f(x;)\n  let y = cut x\n  give y")
        self.steps('fun f(x;)\n  let y = "01"\n  give y')

    def test_copy_of_a_copy(self):
        text = "fun f(x;)\n  let y = x\n  let z = %s\n  give %s"
        self.steps(text % ("y", "z"), ("copy", (0, 5, 1, 2), text % ("x", "z")), ("copy", (0, 6, 0), text % ("y", "y")))

    def test_copy_of_rest_letter_and_in_arguments(self):
        text = (G + "fun f(x; a)\n  each x as r, l\n    let y = l\n    let z = r\n    each z as q, m\n"
                "      set a = g(%s; %s)\n  give a")
        self.steps(text % ("y", "z"), ("copy", (1, 5, 0, 4, 2, 4, 0, 2, 2, 0), text % ("l", "z")),
                   ("copy", (1, 5, 0, 4, 2, 4, 0, 2, 3, 0), text % ("y", "r")))

    def test_a_leader_is_not_copied(self):
        self.steps("fun f(x; a)\n  let y = x\n  each y as r, l\n    set a = a + 1\n  give a")

    def test_dead_lets(self):
        self.steps("fun f(x; a)\n  let y = cut x\n  give a", ("dead", (0, 5, 0), "fun f(x; a)\n  give a"))
        self.steps("fun f(x; a)\n  each x as r, l\n    set a = l\n    let y = cut r\n  give a",
                   ("dead", (0, 5, 0, 4, 1), "fun f(x; a)\n  each x as r, l\n    set a = l\n  give a"))
        self.steps("fun f(x; a)\n  let y = cut x\n  each y as r, l\n    set a = a + 1\n  give a")
        self.steps("fun f(x; a)\n  let y = cut x\n  let z = cut y\n  give a",
                   ("dead", (0, 5, 1), "fun f(x; a)\n  let y = cut x\n  give a"))

    def test_a_let_that_only_what_is_dead_reads_is_not_dead(self):
        self.steps("fun f(x; a)\n  let y = cut x\n  set a = y\n  set a = x\n  give a",
                   ("dead", (0, 5, 1), "fun f(x; a)\n  let y = cut x\n  set a = x\n  give a"))

    def test_dead_sets(self):
        self.steps("fun f(x; a) own s\n  set s = a\n  set a = x\n  give a",
                   ("dead", (0, 5, 0), "fun f(x; a) own s\n  set a = x\n  give a"))
        self.steps("fun f(x; a) own s\n  each x as r, l\n    set s = s + 1\n  give a",
                   ("dead", (0, 5, 0, 4, 0), "fun f(x; a) own s\n  each x as r, l\n  give a"))
        self.steps("fun f(x; a) own s\n  each x as r, l\n    set a = s\n    set s = s + 1\n  give a")
        self.steps('fun f(x; a) own s\n  set s = a\n  set s = s + 1\n  give a',
                   ("dead", (0, 5, 0)), ("dead", (0, 5, 1), "fun f(x; a) own s\n  set s = a\n  give a"))
        self.steps("fun f(; a)\n  set a = a\n  give a")

    def test_dead_sets_with_several_names(self):
        self.steps(TWO + "fun f(x; a) own s, t\n  set s, t = two(x; a, s)\n  give a",
                   ("dead", (1, 5, 0), TWO + "fun f(x; a) own s, t\n  give a"))
        self.steps(TWO + "fun f(x; a) own s, t\n  set s, t = two(x; a, s)\n  give t")

    def test_dead_whens_and_rounds(self):
        self.steps("fun f(x; a)\n  when a\n  give a", ("dead", (0, 5, 0), "fun f(x; a)\n  give a"))
        self.steps("fun f(x; a)\n  each x as r, l\n  give a", ("dead", (0, 5, 0), "fun f(x; a)\n  give a"))
        self.steps("fun f(x; a)\n  each x as r, l\n    when a\n  give a",
                   ("dead", (0, 5, 0, 4, 0), "fun f(x; a)\n  each x as r, l\n  give a"))
        for branch in ("none", "zero", "one"):
            self.steps("fun f(x; a)\n  when a\n    " + branch + "\n      set a = x\n  give a")

    def test_known(self):
        for term, known in (('"01" + 1', '"011"'), ('"" + 0', '"0"'), ('cut "01"', '"0"'), ('cut ""', '""')):
            self.steps("fun f(;)\n  give " + term, ("known", (0, 6, 0), "fun f(;)\n  give " + known))
        self.steps('fun f(;)\n  give "1" + 0 + 1', ("known", (0, 6, 0), 'fun f(;)\n  give "101"'),
                   ("known", (0, 6, 0, 1), 'fun f(;)\n  give "10" + 1'))
        self.steps('fun f(;)\n  give cut cut ""', ("known", (0, 6, 0), 'fun f(;)\n  give ""'),
                   ("known", (0, 6, 0, 1), 'fun f(;)\n  give cut ""'))
        self.steps('fun f(; a)\n  give a + 1, cut a, "01", ""')

    def test_known_in_arguments(self):
        self.steps(G + 'fun f(; a)\n  give g(cut "1"; a) + 1, g("1"; "" + 1)',
                   ("known", (1, 6, 0, 1, 2, 0), G + 'fun f(; a)\n  give g(""; a) + 1, g("1"; "" + 1)'),
                   ("known", (1, 6, 1, 3, 0), G + 'fun f(; a)\n  give g(cut "1"; a) + 1, g("1"; "1")'))

    def test_same(self):
        text = G + "fun f(x; a)\n  let y = %s\n  set a = %s\n  give a, y"
        self.steps(text % ("cut (cut x + 1)", "a"), ("same", (1, 5, 0, 2), text % ("cut x", "a")))
        self.steps(text % ("cut x", "cut (g(x; a) + 0) + 1"), ("same", (1, 5, 1, 2, 1), text % ("cut x", "g(x; a) + 1")))
        self.steps("fun f(; a)\n  give cut (cut (a + 1) + 0)", ("same", (0, 6, 0), "fun f(; a)\n  give cut (a + 1)"),
                   ("same", (0, 6, 0, 1, 1), "fun f(; a)\n  give cut (a + 0)"))
        self.steps("fun f(; a)\n  give cut a + 1, cut cut a")

    def test_known_and_same(self):
        self.steps('fun f(;)\n  give cut ("0" + 1)', ("known", (0, 6, 0), 'fun f(;)\n  give "0"'),
                   ("known", (0, 6, 0, 1), 'fun f(;)\n  give cut "01"'), ("same", (0, 6, 0), 'fun f(;)\n  give "0"'))

    def test_all_steps_of_many_programs(self):
        seen = set()
        for seed in range(250):
            program = ProgramMaker(seed).program()
            found = steps_from(program)
            self.assertEqual(found, tuple(sorted(slow_steps(program, set(slow_places(program))))))
            seen |= {step[0] for step in found}
        self.assertEqual(seen, set(KINDS))


class WhatIsNoStepTest(unittest.TestCase):
    PROGRAM = read('fun f(x; a)\n  let y = x\n  let z = cut y\n  set a = cut ("1" + 0)\n  when a\n  give a')

    def test_other_values(self):
        steps = steps_from(self.PROGRAM)
        self.assertEqual(len(steps), 6)
        for thing in ODD_VALUES:
            self.bad(thing)
        for kind, path in steps:
            for thing in (
                    [kind, path], (kind, list(path)), (kind, path, ()), (kind,), kind, path, (path, kind), (kind.upper(), path),
                    ((kind,), path), (kind, path + (0,)), (kind, path[:-1]), (kind, (path,)), ((kind, path),), (None, path),
                    (kind, path[:-1] + (str(path[-1]),)), (kind, (-1,) + path[1:]), (True, path), {kind: path}):
                if thing not in steps:
                    self.bad(thing)
            for at, number in enumerate(path):
                if number in (0, 1):
                    self.bad((kind, path[:at] + (bool(number),) + path[at + 1:]))

    def bad(self, thing):
        self.assertIs(is_step(self.PROGRAM, thing), False, thing)
        with self.assertRaises(BadStep) as caught:
            behind_step(self.PROGRAM, thing)
        self.assertIs(caught.exception.thing, thing)

    def test_bent_steps(self):
        rng = random.Random(8)
        steps = steps_from(self.PROGRAM)
        for _ in range(300):
            thing = bent(rng.choice(steps), rng)
            right = any(thing == step and repr(thing) == repr(step) for step in steps)
            self.assertIs(is_step(self.PROGRAM, thing), right, thing)

    def test_the_program_comes_first(self):
        for thing in ODD_VALUES + (read("fun f(x;)\n  give y"), [self.PROGRAM]):
            if thing != ():
                for call in (steps_from, simplifying, simplified, lambda p: is_step(p, None), lambda p: behind_step(p, None)):
                    with self.assertRaises(BadProgram) as caught:
                        call(thing)
                    self.assertIs(caught.exception.thing, thing)


class SimplifyingTest(unittest.TestCase):
    def test_the_empty_program(self):
        self.assertEqual((steps_from(()), simplifying(()), simplified(())), ((), (), ()))

    def test_the_first_step_is_taken(self):
        program = read('fun f(x; a) own s\n  let y = x\n  when "1"\n    one\n      set a = y\n  set s = cut (a + 1)\n  give a')
        told = (("choice", (0, 5, 1)), ("copy", (0, 5, 1, 2)), ("dead", (0, 5, 0)), ("dead", (0, 5, 1)))
        self.assertEqual(simplifying(program), told)
        self.assertEqual(written(simplified(program)), "fun f(x; a) own s\n  set a = x\n  give a")

    def test_it_has_no_step_left_and_keeps_the_inputs(self):
        for seed in range(120):
            program = ProgramMaker(seed).program()
            behind = program
            for step in simplifying(program):
                self.assertEqual(step, steps_from(behind)[0])
                behind = behind_step(behind, step)
            self.assertEqual(steps_from(behind), ())
            self.assertEqual(simplified(program), behind)
            self.assertEqual(simplifying(behind), ())
            self.assertEqual([function[:5] for function in behind], [function[:5] for function in program])
            self.assertTrue(all(len(one[6]) == len(other[6]) for one, other in zip(behind, program)))

    def test_outcomes_steps_and_tables(self):
        taken = {kind: 0 for kind in KINDS}
        for seed in range(200):
            rng = random.Random(seed)
            program = ProgramMaker(seed).program()
            table = bounds(program)
            runs = self.runs(program, table, rng)
            for step in steps_from(program)[:10]:
                taken[step[0]] += len(runs)
                self.kept(program, behind_step(program, step), runs, table, step)
            self.kept(program, simplified(program), runs, table, ("all", ()))
        self.assertGreater(min(taken.values()), 30)

    def runs(self, program, table, rng):
        found = []
        for function, pair in zip(program, table):
            for _ in range(2):
                leads = tuple(word(rng, 4) for _ in function[2])
                softs = tuple(word(rng, 4) for _ in function[3])
                if value(pair[1], [len(lead) for lead in leads]) <= 5000:
                    found.append(((function[1], leads, softs), run(program, function[1], leads, softs)))
        return found

    def kept(self, program, behind, runs, table, step):
        self.assertIs(is_program(behind), True)
        self.assertTrue(at_most(bounds(behind), table))
        smaller = len(slow_places(behind)) < len(slow_places(program))
        if step[0] != "all":
            self.assertEqual(smaller, step[0] != "copy")
        for call, (outcomes, steps) in runs:
            found = run(behind, *call)
            self.assertEqual(found[0], outcomes)
            if step[0] != "dead" or at_path(program, step[1])[0] != "set":
                self.assertLessEqual(found[1], steps)

    def test_any_order_ends(self):
        for seed in range(60):
            rng = random.Random(seed)
            program = ProgramMaker(seed).program()
            for _ in range(3):
                behind, many = program, 0
                while steps_from(behind):
                    behind = behind_step(behind, rng.choice(steps_from(behind)))
                    many += 1
                    self.assertLess(many, 2000)
                self.assertEqual([function[:5] for function in behind], [function[:5] for function in program])

    def test_at_the_limits(self):
        text = "".join("fun f%d(x;)\n  give x\n" % k for k in range(11)) + "fun f(x;)\n  let y0 = x\n"
        text += "".join("  let y%d = y%d\n" % (k + 1, k) for k in range(22)) + "  give y22"
        program = read(text)
        self.assertEqual(len(slow_places(program)), 58)
        steps = simplifying(program)
        self.assertEqual({step[0] for step in steps}, {"copy", "dead"})
        self.assertEqual(written(simplified(program)).split("\n")[-2:], ["fun f(x;)", "  give x"])
        term = '""'
        for k in range(8):
            term = "cut (" + term + " + 1)"
        deep = read("fun f(; a)\n" + "  when " + term + "\n    none\n      set a = a + 1\n" + "  give a")
        self.assertEqual(written(simplified(deep)), "fun f(; a)\n  set a = a + 1\n  give a")
