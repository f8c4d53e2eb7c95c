"""Standings of the machine [8.1]."""

import random
import unittest

from quicktongue.errors import BadInputs, BadNumber, BadStanding, BadUnit
from quicktongue.machine import beginning, is_standing, rest_of_run, run, step
from tests.slowcode import slow_ahead, slow_machine_run, slow_tree
from tests.support import ODD_VALUES, at_path, bent, replaced, sub_paths
from tests.unitmaker import UnitMaker, code_of, inputs, l, unit_of_codes, word

INNER = code_of(1, 2, 2, 3, "word l1 0; give (s0)")
OUTER = code_of(1, 1, 6, 3, "word l1 01; when s0; each l0 l2 l3; call 0 (l2) (s0 s1) (s0); each l1 l4 l5; move s1 l4; end; end;"
                "zero; word s0 1; one; end; call 0 (l0) (s0 s0) (s1); give (s0 l1)")
UNIT = unit_of_codes(INNER, OUTER)
ROWS = OUTER[4]


def slow_is_standing(unit, thing):
    """Whether any value is a standing, clause by clause."""
    if type(thing) is not tuple or not thing:
        return False
    if type(thing[0]) is str and thing[0] == "ended":
        return len(thing) == 2 and slow_words(thing[1]) and thing[1] != ()
    for frame in thing:
        if type(frame) is not tuple or len(frame) != 5 or any(type(part) is not int for part in frame[:2]):
            return False
        f, row, leads, softs, rounds = frame
        if not 0 <= f < len(unit[1]) or not 0 <= row < len(unit[1][f][4]):
            return False
        code = unit[1][f]
        if code[4][row][0] in ("zero", "one", "end") or type(leads) is not tuple or len(leads) != code[2]:
            return False
        if not slow_words(softs) or len(softs) != code[3]:
            return False
        if not slow_words(rounds) or len(rounds) != slow_depth(slow_tree(code[4]), row):
            return False
        ahead = slow_ahead(code)[row]
        for at, held in enumerate(leads):
            if (slow_words((held,)) if l(at) in ahead else held is None) is False:
                return False
    for frame, inner in zip(thing, thing[1:]):
        row = unit[1][frame[0]][4][frame[1]]
        if row[0] != "call" or row[1] != inner[0]:
            return False
    return True


def slow_words(thing):
    return type(thing) is tuple and all(type(part) is str and set(part) <= {"0", "1"} for part in thing)


def slow_depth(nodes, at, depth=0):
    """How many rounds a row is within."""
    for position, row, inner, _ in nodes:
        if position == at:
            return depth
        for part in inner:
            found = slow_depth(part, at, depth + (row[0] == "each"))
            if found is not None:
                return found
    return None


class BeginningTest(unittest.TestCase):
    def test_beginnings(self):
        self.assertEqual(beginning(UNIT, 0, ("01",), ("1", "")), ((0, 0, ("01", None), ("1", "", ""), ()),))
        self.assertEqual(beginning(UNIT, 1, ("",), ("11",)), ((1, 0, ("", None, None, None, None, None), ("11", "", ""), ()),))
        unit = unit_of_codes(code_of(0, 0, 0, 1, "give (s0)"), code_of(0, 0, 2, 0, "word l0 0; give (l0)"))
        self.assertEqual(beginning(unit, 0, (), ()), ((0, 0, (), ("",), ()),))
        self.assertEqual(beginning(unit, 1, (), ()), ((1, 0, (None, None), (), ()),))

    def test_each_is_a_standing(self):
        for seed in range(80):
            unit = UnitMaker(seed).unit()
            for f, code in enumerate(unit[1]):
                standing = beginning(unit, f, *inputs(random.Random(seed), code, 5))
                self.assertIs(is_standing(unit, standing), True)
                self.assertIs(slow_is_standing(unit, standing), True)

    def test_bad_numbers_and_inputs(self):
        for call in (beginning, run):
            for f in ODD_VALUES + (2, -1, "1", True, (1,), [1]):
                if type(f) is not int or not 0 <= f < 2:
                    self.bad(call, BadNumber, f, (UNIT, f, None, None))
            for leads in ODD_VALUES + ((), ("0", "1"), ("2",), ["0"], (None,), "0", (0,), ("0",) * 3, (("0",),), ("0\n",)):
                self.bad(call, BadInputs, leads, (UNIT, 0, leads, None))
            for softs in ODD_VALUES + ((), ("0",), ("0", "1", "1"), ["0", "1"], ("0", None), "01", ("0", "x"), ("0", ("1",))):
                self.bad(call, BadInputs, softs, (UNIT, 0, ("1",), softs))
            self.bad(call, BadNumber, 0, (((), (), ()), 0, (), ()))

    def bad(self, call, error, thing, arguments):
        with self.assertRaises(error) as caught:
            call(*arguments)
        self.assertIs(caught.exception.thing, thing)

    def test_bad_units(self):
        needing = unit_of_codes(INNER, needs=(("n", 0, 0, 1),))
        for unit in ODD_VALUES + (needing, unit_of_codes(code_of(0, 0, 1, 1, "give (l0)")), unit_of_codes(OUTER), list(UNIT)):
            for call in (beginning, run):
                self.bad(call, BadUnit, unit, (unit, None, None, None))
            for call in (is_standing, step, rest_of_run):
                self.bad(call, BadUnit, unit, (unit, None))


class IsStandingTest(unittest.TestCase):
    OUT = (1, 3, ("01", "01", "", "1", None, None), ("0", "", "1"), ("10",))
    IN = (0, 1, ("111", "0"), ("", "1", "01"), ())
    LAST = (1, 13, ("01", "1", None, None, None, None), ("0", "", "1"), ())
    DEEP = (1, 5, ("01", "01", "", "1", "0", "1"), ("0", "", "1"), ("10", ""))

    def standing(self, thing, right):
        self.assertIs(is_standing(UNIT, thing), right, thing)
        self.assertIs(slow_is_standing(UNIT, thing), right, thing)
        if not right:
            for call in (step, rest_of_run):
                with self.assertRaises(BadStanding) as caught:
                    call(UNIT, thing)
                self.assertIs(caught.exception.thing, thing)

    def with_part(self, frame, at, part):
        return (frame[:at] + (part,) + frame[at + 1:],)

    def test_right_ones(self):
        for thing in ((self.OUT,), (self.IN,), (self.LAST,), (self.DEEP,), (self.OUT, self.IN), (
                (1, 12, ("01", "1", None, None, None, None), ("0", "", "1"), ()), self.IN)):
            self.standing(thing, True)
        for rounds in ("", "0" * 40, "1111"):
            self.standing((self.OUT[:4] + ((rounds,),), self.IN), True)

    def test_ended_ones(self):
        for words, right in ((("0",), True), (("", ""), True), (("0",) * 9, True), ((), False), ("0", False), (["0"], False),
                             ((None,), False), (("2",), False), ((("0",),), False), (None, False)):
            self.standing(("ended", words), right)
        for thing in (("ended",), ("ended", ("0",), ("0",)), ["ended", ("0",)], ("Ended", ("0",)), (("0",), "ended"), "ended",
                      (("ended", ("0",)),), ("ended", ("0",), ()), ("ended", self.IN), (self.OUT, ("ended", ("0",))),
                      ("end", ("0",)), ((("ended",), ("0",)),)):
            self.standing(thing, False)

    def test_no_frames_and_other_values(self):
        for thing in ODD_VALUES + ((), [], [self.OUT], self.OUT, (self.OUT, ()), ((),), (None,), (list(self.OUT),)):
            self.standing(thing, False)

    def test_positions(self):
        for f in (-1, 2, True, "1", None, (1,), 10 ** 39, 0):
            self.standing(self.with_part(self.OUT, 0, f), False)
        self.standing(self.with_part(self.IN, 0, False), False)
        self.standing(self.with_part(self.IN, 1, True), False)
        for row in (-1, 14, None, "3", (3,), 10 ** 39, 3.0):
            self.standing(self.with_part(self.OUT, 1, row), False)

    def test_rows_that_are_passed_over(self):
        for row, held in enumerate(slow_ahead(OUTER)[row] for row in range(len(ROWS))):
            leads = tuple("0" if l(at) in held else None for at in range(6))
            depth = {3: 1, 4: 1, 5: 2, 6: 2, 7: 1}.get(row, 0)
            for many in range(4):
                thing = ((1, row, leads, ("", "", ""), ("01",) * many),)
                right = many == depth and ROWS[row][0] not in ("zero", "one", "end")
                self.standing(thing, right)

    def test_none_for_words_and_words_for_none(self):
        for frame in (self.OUT, self.LAST, self.DEEP, self.IN):
            for at, held in enumerate(frame[2]):
                others = ("0", "", True, 0, ("0",)) if held is None else (None, "2", 0, True, ("0",), "0\n")
                for other in others:
                    leads = frame[2][:at] + (other,) + frame[2][at + 1:]
                    self.standing(self.with_part(frame, 2, leads), False)
                if held is not None:
                    self.standing(self.with_part(frame, 2, frame[2][:at] + ("00110",) + frame[2][at + 1:]), True)
            for at in range(len(frame[3])):
                self.standing(self.with_part(frame, 3, frame[3][:at] + (None,) + frame[3][at + 1:]), False)
                self.standing(self.with_part(frame, 3, frame[3][:at] + ("01",) + frame[3][at + 1:]), True)

    def test_tuples_of_other_lengths_and_lists(self):
        for frame in (self.OUT, self.LAST, self.DEEP, self.IN):
            for at in (2, 3, 4):
                part = frame[at]
                for other in (part + ("0",), part + (None,), part[:-1] if part else ("",), list(part), None, "0", part + ("", "")):
                    self.standing(self.with_part(frame, at, other), False)
            for at in range(5):
                self.standing((frame[:at] + frame[at + 1:],), False)
                self.standing((frame[:at] + frame[at:at + 1] + frame[at:],), False)
            self.standing((list(frame),), False)

    def test_frames_left_out_twice_or_in_another_order(self):
        self.standing((self.OUT, self.IN), True)
        for thing in ((self.IN, self.OUT), (self.OUT, self.OUT), (self.IN, self.IN), (self.OUT, self.IN, self.IN),
                      (self.OUT, self.OUT, self.IN), (self.DEEP, self.IN), (self.LAST, self.IN), (self.OUT, self.LAST)):
            self.standing(thing, False)

    def test_frames_of_other_functions(self):
        three = unit_of_codes(INNER, INNER, code_of(1, 1, 1, 1, "call 1 (l0) (s0 s0) (s0); give (s0)"))
        outer = (2, 0, ("0",), ("1",), ())
        for f in range(3):
            thing = (outer, (f, 1, ("111", "0"), ("", "1", "01"), ()))
            self.assertIs(is_standing(three, thing), f == 1)
            self.assertIs(slow_is_standing(three, thing), f == 1)

    def test_standings_of_runs_and_bent_ones(self):
        right = wrong = 0
        for seed in range(120):
            rng = random.Random(seed)
            unit = UnitMaker(seed).unit()
            f = rng.randrange(len(unit[1]))
            for standing, _ in (slow_machine_run(unit, f, *inputs(rng, unit[1][f], 3), most=300) or [])[:12]:
                self.assertIs(is_standing(unit, standing), True)
                self.assertIs(slow_is_standing(unit, standing), True)
                for _ in range(4):
                    thing = bent(standing, rng)
                    found = is_standing(unit, thing)
                    self.assertIs(found, slow_is_standing(unit, thing), thing)
                    right += found
                    wrong += not found
        self.assertGreater(min(right, wrong), 200)

    def test_parts_of_a_standing(self):
        thing = ((1, 3, ("01", "01", "", "1", None, None), ("0", "", "1"), ("10",)), self.IN)
        for path in sub_paths(thing):
            part = at_path(thing, path)
            for other in (None, (), "0", 0, 1, True, [part], (part,), list(part) if isinstance(part, tuple) else "x"):
                changed = replaced(thing, path, other)
                self.assertIs(is_standing(UNIT, changed), slow_is_standing(UNIT, changed), changed)


class OtherStandingsTest(unittest.TestCase):
    """Standings that no run comes to."""

    @staticmethod
    def made(unit, f, rng, inner=()):
        """Any standing with a frame of the function at f as its first one."""
        code = unit[1][f]
        rows = [at for at, row in enumerate(code[4]) if row[0] not in ("zero", "one", "end")]
        row = rng.choice(rows)
        ahead = slow_ahead(code)[row]
        leads = tuple(word(rng, 4) if l(at) in ahead else None for at in range(code[2]))
        softs = tuple(word(rng, 4) for _ in range(code[3]))
        rounds = tuple(word(rng, 3) for _ in range(slow_depth(slow_tree(code[4]), row)))
        frame = ((f, row, leads, softs, rounds),)
        if code[4][row][0] == "call" and rng.random() < 0.7:
            return frame + OtherStandingsTest.made(unit, code[4][row][1], rng)
        return frame

    def test_they_are_standings_and_their_rest_is_that_of_their_steps(self):
        many = 0
        for seed in range(250):
            rng = random.Random(seed)
            unit = UnitMaker(seed).unit()
            standing = self.made(unit, len(unit[1]) - 1, rng)
            self.assertIs(is_standing(unit, standing), True)
            self.assertIs(slow_is_standing(unit, standing), True)
            total, counts, first = 0, 0, standing
            while standing[0] != "ended" and counts < 150:
                standing, count = step(unit, standing)
                self.assertIs(slow_is_standing(unit, standing), True)
                total += count
                counts += 1
            if standing[0] == "ended":
                many += 1
                self.assertEqual(rest_of_run(unit, first), (standing[1], total))
        self.assertGreater(many, 150)
