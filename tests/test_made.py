"""Programs made for pile machines and clocks [11.4]."""

import random
import unittest
from itertools import product

from quicktongue import machine as code_machine
from quicktongue.bytework import bytes_of
from quicktongue.chain import chain_bounds, chained, made_bytes
from quicktongue.compiler import plain_unit
from quicktongue.errors import BadMachine, BadNumber
from quicktongue.levels import is_program
from quicktongue.loader import load
from quicktongue.made import clock_program, made
from quicktongue.meaning import run
from quicktongue.piles import outcome, standing_after
from quicktongue.polys import poly_value
from tests.limits import check_program, check_unit
from tests.support import ODD_VALUES
from tests.test_piles import DEEDS, FLIP, GROW, STAY, drawn_machine

# In each state the deed that takes most rows, and each step goes on to another state.
LONG = tuple((((k + 1) % 6, "back"), ((k + 2) % 6, "over"), ((k + 5) % 6, "back")) for k in range(6))
WIDE = tuple((((k + 1) % 6, "put0"), ((k + 5) % 6, "put1"), ((k + 2) % 6, "back")) for k in range(6))


def words(most):
    for many in range(most + 1):
        for letters in product("01", repeat=many):
            yield "".join(letters)


class ProgramCase(unittest.TestCase):
    def form(self, program, most):
        """The program has a last function of the right form, and is within the limits."""
        self.assertIs(is_program(program), True)
        _, _, leads, softs, _, _, gives = program[-1]
        self.assertEqual((len(leads), len(softs), len(gives)), (1, 0, 1))
        self.assertLessEqual(len(program), most)
        check_program(self, program)
        check_unit(self, load(made_bytes(program)))

    def told(self, program, word):
        """The outcome of the last function, by its meaning and by the machine; the runs are within the limits."""
        name, unit = program[-1][1], plain_unit(program)
        (told,), steps = run(program, name, (word,), ())
        self.assertLessEqual(steps, 20000)
        (code_told,), code_steps = code_machine.run(unit, len(program) - 1, (word,), ())
        self.assertEqual(code_told, told)
        self.assertLessEqual(code_steps, min(4000, 2 * steps))
        self.assertEqual(chained(program, name, (word,), ()), ((told,), code_steps))
        _, p = chain_bounds(program)[-1]
        self.assertLessEqual(code_steps, poly_value(1, p, (len(word),)))
        return told


class MadeTest(ProgramCase):
    def check(self, machine, c, d, inputs):
        program = made(machine, c, d)
        self.form(program, len(machine) + 2)
        for word in inputs:
            self.assertEqual(self.told(program, word), outcome(machine, c, d, word), (machine, c, d, word))

    def test_all_short_words(self):
        for machine in (FLIP, GROW, (((1, "stay"), (0, "cut"), (1, "put1")),)):
            for c, d in ((0, 0), (0, 3), (1, 0), (1, 1), (2, 0), (2, 1), (3, 0)):
                self.check(machine, c, d, words(3))

    def test_each_deed_after_each_letter(self):
        for deed in DEEDS:
            for before in ("put0", "put1", "over", "cut"):
                machine = (((1, before),) * 3, ((2, deed),) * 3, ((3, "over"), (3, "back"), (3, "put0")))
                self.check(machine, 0, 0, words(2))
                self.check(machine, 0, 1, words(2))
                self.check(machine, 0, 2, words(2))

    def test_each_clock(self):
        rng = random.Random(1)
        for c, d in product(range(4), range(13)):
            machine = drawn_machine(rng)
            most = 4 if c == 3 else 6
            self.check(machine, c, d, ["".join(rng.choice("01") for _ in range(k)) for k in range(most + 1)])

    def test_machines_of_each_number_of_states(self):
        rng = random.Random(2)
        for many in range(1, 7):
            for _ in range(6):
                machine = drawn_machine(rng, many)
                while len(machine) != many:
                    machine = drawn_machine(rng, many)
                self.check(machine, 1, 12, ["".join(rng.choice("01") for _ in range(6)) for _ in range(3)])

    def test_all_states_are_kept_apart(self):
        for many in range(1, 7):
            # Each state puts a letter of its own and goes on to the next one; the last one halts.
            machine = tuple(((k + 1, "put" + str(k & 1)),) * 3 for k in range(many))
            for d in range(many + 3):
                self.check(machine, 0, d, ("", "1"))
            ring = tuple((((k + 1) % many, "put" + str(int(k == 0))),) * 3 for k in range(many))
            self.check(ring, 1, 12, ("010",))

    def test_at_the_limits(self):
        for machine in (LONG, WIDE, (((6, "stay"),) * 3,) * 6, (((0, "back"),) * 3,) * 6):
            self.check(machine, 3, 12, ("", "0110", "1111"))
            self.check(machine, 2, 12, ("010110", "111111"))
            self.check(machine, 0, 12, ("000000",))

    def test_somewhat_more_states(self):
        for many in (7, 8, 13):
            machine = tuple(((k + 1, "put" + str(k & 1)),) * 3 for k in range(many))
            program = made(machine, 1, 12)
            self.assertIs(is_program(program), True)
            for word in ("", "0", "0101"):
                self.assertEqual(run(program, program[-1][1], (word,), ())[0], (outcome(machine, 1, 12, word),))
        self.assertEqual(standing_after(machine, "", 13)[0], 13)

    def test_errors(self):
        bad = ["bad"]
        for machine in ODD_VALUES + (STAY, [STAY]):
            with self.assertRaises(BadMachine) as caught:
                made(machine, bad, bad)
            self.assertIs(caught.exception.thing, machine)
        for number in ODD_VALUES:
            if type(number) is int and number >= 0:
                continue
            for function, arguments in ((made, (FLIP, number, bad)), (made, (FLIP, 1, number)), (clock_program, (number, bad)), (clock_program, (1, number)),
                                        (made, (FLIP, number, 1)), (clock_program, (number, 1))):
                with self.assertRaises(BadNumber) as caught:
                    function(*arguments)
                self.assertIs(caught.exception.thing, number)


class ClockTest(ProgramCase):
    def test_clock_programs(self):
        for c, d in product(range(4), range(13)):
            program = clock_program(c, d)
            self.form(program, 8)
            for many in range(5 if c == 3 else 7):
                for word in ("0" * many, "1" * many, "01" * (many // 2) + "0" * (many & 1)):
                    self.assertEqual(self.told(program, word), "1" * (many ** c + d))
            self.assertEqual(load(bytes_of(plain_unit(program))), plain_unit(program))
