"""Loading bytes that anybody has made [10.2]."""

import random
import unittest

from quicktongue import machine
from quicktongue.bytework import bytes_of, unit_of
from quicktongue.code import first_fault, is_taken
from quicktongue.codebounds import code_bounds
from quicktongue.compiler import plain_unit
from quicktongue.errors import BadBytes, BadUnit
from quicktongue.loader import load, load_bounds
from quicktongue.polys import poly_value
from tests.loosemaker import loose_unit
from tests.slowbytes import slow_bytes
from tests.slowcode import slow_code_pairs, slow_unit_faults
from tests.support import ODD_VALUES, ProgramMaker
from tests.unitmaker import UnitMaker, code_of, inputs, unit_of_codes

# For each word of a fault rows that have it as the first one, with one register of each kind for an argument and four in all.
FAULTY = (
    ("shape", "end; give (s0)"), ("shape", "zero; give (s0)"), ("shape", "when s0; zero; one; give (s0)"), ("shape", "each l0 l1 l2; give (s0)"),
    ("shape", "when s0; one; zero; end; give (s0)"), ("shape", "each l0 l1 l2; zero; one; end; give (s0)"),
    ("register", "word l4 0; give (s0)"), ("register", "give (s4)"), ("register", "each l0 l1 l9; end; give (s0)"),
    ("call", "call 0 () () (s0); give (s0)"), ("call", "call 200 () () (s0); give (s0)"),
    ("level", "move l1 s0; give (s0)"), ("level", "put l1 s1 0; give (s0)"), ("level", "cut l1 s2; give (s0)"),
    ("level", "each s0 l1 l2; end; give (s0)"), ("level", "each l0 s1 l2; end; give (s0)"), ("level", "each l0 l1 s2; end; give (s0)"),
    ("twice", "each l0 l1 l1; end; give (s0)"), ("unset", "give (l1)"), ("unset", "when l2; zero; one; end; give (s0)"),
    ("unset", "each l0 l1 l2; end; give (l1)"), ("unset", "when s0; word l1 0; zero; one; end; give (l1)"),
    ("unset", "each l0 l1 l2; move s0 l3; word l3 0; end; give (s0)"),
)


class LoadTest(unittest.TestCase):
    def loaded(self, unit):
        """The unit is taken, and its bytes are loaded."""
        code = bytes_of(unit)
        self.assertEqual(load(code), unit)
        if unit[0]:
            self.bad(load_bounds, code, unit)
        else:
            self.assertEqual(load_bounds(code), code_bounds(unit))
            self.assertEqual(load_bounds(code), slow_code_pairs(unit))

    def bad(self, function, code, unit):
        with self.assertRaises(BadUnit) as caught:
            function(code)
        self.assertEqual(caught.exception.thing, unit)

    def refused(self, unit):
        self.bad(load, bytes_of(unit), unit)
        self.bad(load_bounds, bytes_of(unit), unit)

    def test_units_that_are_taken(self):
        self.loaded(((), (), ()))
        self.loaded(((("n", 1, 1, 1),), (), ()))
        self.loaded(unit_of_codes(code_of(1, 1, 3, 1, "each l0 l1 l2; put s0 s0 1; end; give (s0)")))
        for seed in range(200):
            self.loaded(UnitMaker(seed, seed % 3 > 0).unit())

    def test_plain_units(self):
        for seed in range(60):
            self.loaded(plain_unit(ProgramMaker(seed).program()))

    def test_each_kind_of_fault(self):
        for word, text in FAULTY:
            code = code_of(1, 1, 4, 4, text)
            first = code_of(0, 1, 0, 1, "give (s0)")
            for codes in ((code,), (first, code), (code, first)):
                unit = unit_of_codes(*codes)
                if word == "call" and codes[0] == first:
                    continue
                self.assertEqual(first_fault(unit)[2], word, text)
                self.refused(unit)

    def test_faults_of_calls(self):
        first = code_of(1, 1, 1, 1, "give (s0 l0)")
        for row in ("call 0 () (s0) (s1 s2)", "call 0 (l0) () (s1 s2)", "call 0 (l0) (s0) (s1)", "call 0 (l0) (s0) (s1 s1)", "call 1 (l0) (s0) (s1 s2)",
                    "call 0 (l0 l0) (s0) (s1 s2)"):
            unit = unit_of_codes(first, code_of(1, 1, 4, 4, row + "; give (s0)"))
            self.assertEqual(first_fault(unit), (1, 0, "call"), row)
            self.refused(unit)
        for row in ("call 0 (s0) (s0) (s1 s2)", "call 0 (l0) (s0) (l1 s2)", "call 0 (l0) (s0) (s2 l1)"):
            unit = unit_of_codes(first, code_of(1, 1, 4, 4, row + "; give (s0)"))
            self.assertEqual(first_fault(unit), (1, 0, "level"), row)
            self.refused(unit)
        self.loaded(unit_of_codes(first, code_of(1, 1, 4, 4, "call 0 (l0) (l0) (s1 l2); give (s1)")))

    def test_units_that_are_not_whole(self):
        unit = ((("n", 1, 0, 1),), (code_of(1, 0, 1, 1, "call 0 (l0) () (s0); give (s0)"),), (("f", 0),))
        self.loaded(unit)
        self.refused(unit[:1] + ((code_of(1, 0, 1, 1, "call 1 (l0) () (s0); give (s0)"),),) + unit[2:])

    def test_drawn_units(self):
        rng = random.Random(1)
        found = [0, 0]
        for _ in range(1500):
            unit = loose_unit(rng)
            taken = not slow_unit_faults(unit)
            self.assertIs(is_taken(unit), taken)
            found[taken] += 1
            if taken:
                self.loaded(unit)
            else:
                self.refused(unit)
        self.assertGreater(min(found), 100)

    def test_bytes_that_are_wrong_come_first(self):
        for code in ODD_VALUES + ((81, 84), (81, 84, 0, 0, 1), (81, 84, 0, 1, 0, 1, 1, 1, 11, 1, 0), (81, 84, 0, 1, 0, 1, 1, 1, 9, 11, 0)):
            for function in (unit_of, load, load_bounds):
                with self.assertRaises(BadBytes) as caught:
                    function(code)
                if type(code) is not tuple:
                    self.assertEqual(caught.exception.at, -1)
        for function in (load, load_bounds):
            with self.assertRaises(BadBytes) as caught:
                function((81, 84, 0, 1, 0, 1, 1, 1, 9, 11, 0))
            self.assertEqual(caught.exception.at, 10)

    def test_a_function_that_cannot_end_is_refused(self):
        # It would call itself.
        self.refused(unit_of_codes(code_of(1, 0, 1, 1, "call 0 (l0) () (s0); give (s0)")))
        # What grows in its rounds would lead them.
        self.refused(unit_of_codes(code_of(1, 0, 4, 1, "each l0 l1 l2; put l0 l0 1; each l0 l1 l3; end; end; give (s0)")))

    def test_at_the_limits(self):
        rows = ["each l0 l%d l%d" % (2 * k + 1, 2 * k + 2) for k in range(5)] + ["put s%d s%d 1" % (k % 40, k % 39) for k in range(109)]
        first = code_of(1, 1, 40, 40, "; ".join(rows + ["end"] * 5 + ["give (s0)"]))
        others = [code_of(2, 0, 40, 40, "move l39 l%d; call %d (l39) (l0) (s39); give (s39 l1)" % (k & 1, 0)) for k in range(11)]
        self.loaded(unit_of_codes(first, *others))


class RunTest(unittest.TestCase):
    """The run of bytes that are loaded ends within the polynomials that are read off them [0.3]."""

    def within(self, unit, f, leads, softs):
        code = slow_bytes(unit)
        loaded = load(code)
        q, p = load_bounds(code)[f]
        lengths = tuple(len(word) for word in leads)
        most = poly_value(len(leads), p, lengths)
        if most > 4000:
            return False
        outcomes, steps = machine.run(loaded, f, leads, softs)
        self.assertLessEqual(steps, most)
        longest = max([len(word) for word in softs], default=0)
        self.assertLessEqual(max(len(word) for word in outcomes), longest + poly_value(len(leads), q, lengths))
        return True

    def test_units_made_at_random(self):
        rng = random.Random(2)
        runs = 0
        for seed in range(400):
            unit = UnitMaker(seed).unit()
            for f, code in enumerate(unit[1]):
                runs += self.within(unit, f, *inputs(rng, code, 6))
        self.assertGreater(runs, 500)

    def test_drawn_bytes(self):
        rng = random.Random(3)
        runs = changed = 0
        for seed in range(2000):
            code = slow_bytes(UnitMaker(seed).unit())
            at = rng.randrange(8, len(code))
            byte = rng.choice((0, 1, 2, 3, 128, 129, 130, code[at] ^ 1))
            code = code[:at] + (byte,) + code[at + 1:]
            try:
                unit = load(code)
            except (BadBytes, BadUnit):
                continue
            changed += unit != UnitMaker(seed).unit()
            self.assertEqual(bytes_of(unit), code)
            for f, function in enumerate(unit[1]):
                if not unit[0]:
                    runs += self.within(unit, f, *inputs(rng, function, 5))
        self.assertGreater(min(changed, runs), 150)
