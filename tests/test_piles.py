"""Pile machines and their runs [11.1 to 11.3]."""

import random
import unittest
from itertools import product

from quicktongue.errors import BadMachine, BadNumber, BadStanding, BadWord
from quicktongue.piles import is_machine, outcome, pile_step, standing_after
from tests.support import ODD_VALUES, at_path, bent, replaced, sub_paths

DEEDS = ("stay", "put0", "put1", "cut", "over", "back")
STAY = ((0, "stay"),) * 3
FLIP = (((1, "stay"), (0, "over"), (0, "over")), ((2, "stay"), (2, "stay"), (2, "stay")))
GROW = (((0, "put1"), (0, "put1"), (0, "put0")),)


def drawn_machine(rng, most=6):
    many = rng.randrange(1, most + 1)
    return tuple(tuple((rng.randrange(many + 1), rng.choice(DEEDS)) for _ in range(3)) for _ in range(many))


def slow_is_machine(thing):
    if type(thing) is not tuple or not thing:
        return False
    for state in thing:
        if type(state) is not tuple or len(state) != 3:
            return False
        for rule in state:
            if type(rule) is not tuple or len(rule) != 2 or type(rule[0]) is not int or type(rule[1]) is not str:
                return False
            if rule[0] not in range(len(thing) + 1) or rule[1] not in DEEDS:
                return False
    return True


def slow_step(machine, standing):
    """A step with lists for the piles."""
    state, left, right = standing[0], list(standing[1]), list(standing[2])
    if state == len(machine):
        return standing
    state, deed = machine[state][{"": 0, "0": 1, "1": 2}["".join(left[-1:])]]
    if deed in ("put0", "put1"):
        left.append(deed[3])
    if deed in ("cut", "over") and left:
        letter = left.pop()
        if deed == "over":
            right.append(letter)
    elif deed == "back" and right:
        left.append(right.pop())
    return (state, "".join(left), "".join(right))


class MachineTest(unittest.TestCase):
    def right(self, thing, told):
        self.assertIs(is_machine(thing), told, thing)
        self.assertIs(slow_is_machine(thing), told)

    def test_right_machines(self):
        self.right((STAY,), True)
        self.right((((1, "stay"), (0, "cut"), (1, "put1")),), True)
        self.right(FLIP, True)
        for deed in DEEDS:
            self.right((((0, deed), (1, deed), (0, deed)),), True)
        rng = random.Random(1)
        for _ in range(200):
            self.right(drawn_machine(rng, 9), True)

    def test_numbers(self):
        for many in range(1, 7):
            for number in range(-2, many + 3):
                machine = (STAY,) * (many - 1) + (((0, "stay"), (number, "stay"), (0, "stay")),)
                self.right(machine, 0 <= number <= many)
        for number in (True, False, None, "0", "1", (), (0,), 10 ** 39, -10 ** 39):
            self.right(((STAY[0], (number, "stay"), STAY[0]),), False)

    def test_deeds(self):
        for deed in ("", "Stay", "stay ", "put", "put2", "put00", "cuts", "overs", "put0 ", "0", None, 0, True, ["stay"], ("stay",), "stayput0", {}):
            for at in range(3):
                self.right((STAY[:at] + ((0, deed),) + STAY[at + 1:],), False)

    def test_shapes(self):
        for thing in ((), [STAY], (list(STAY),), (tuple(map(list, STAY)),), (STAY[:2],), (STAY + STAY[:1],), STAY, (((0, "stay", 0),) * 3,),
                      (((0,),) * 3,), ((("stay", 0),) * 3,), (((),) * 3,), (STAY, None), (STAY, ()), (STAY, "stay"), ((STAY,),), {"a": STAY}, "stay", 1,
                      ({0: "stay"},) * 3, ((0, "stay"),)):
            self.right(thing, False)

    def test_any_values(self):
        for thing in ODD_VALUES:
            self.right(thing, False)
        rng = random.Random(2)
        wrong = 0
        for _ in range(2000):
            thing = bent(drawn_machine(rng), rng)
            self.right(thing, slow_is_machine(thing))
            wrong += not is_machine(thing)
        self.assertGreater(wrong, 1000)

    def test_a_part_otherwise_at_any_place(self):
        for path in sub_paths(FLIP):
            part = at_path(FLIP, path)
            others = [None, [], {}, part + part if type(part) is not int else 3, "deed"]
            if type(part) is tuple:
                others += [list(part), part[:-1], part[1:], part + (0,)]
            for other in others:
                changed = replaced(FLIP, path, other)
                self.right(changed, slow_is_machine(changed))
            if part in (0, 1) and path:
                self.right(replaced(FLIP, path, bool(part)), False)


class StepTest(unittest.TestCase):
    def step(self, deed, left, right, told):
        """The deed alone is done, whatever the state is that follows."""
        for following in range(3):
            rule = (following, deed)
            letter = {"": 0, "0": 1, "1": 2}[left[-1:]]
            other = (2, "put1" if deed != "put1" else "cut")
            state = tuple(rule if at == letter else other for at in range(3))
            for machine, number in (((state, (other,) * 3), 0), (((other,) * 3, state), 1)):
                self.assertEqual(pile_step(machine, (number, left, right)), (following,) + told)
                self.assertEqual(slow_step(machine, (number, left, right)), (following,) + told)

    def test_deeds(self):
        for left, right in product(("", "0", "1", "10", "01"), ("", "0", "1", "10", "01")):
            self.step("stay", left, right, (left, right))
            self.step("put0", left, right, (left + "0", right))
            self.step("put1", left, right, (left + "1", right))
            self.step("cut", left, right, (left[:-1], right))
        self.step("over", "", "01", ("", "01"))
        self.step("over", "10", "01", ("1", "010"))
        self.step("over", "1", "", ("", "1"))
        self.step("back", "10", "", ("10", ""))
        self.step("back", "10", "01", ("101", "0"))
        self.step("back", "", "10", ("0", "1"))

    def test_halted(self):
        for machine in ((STAY,), FLIP, GROW, (STAY,) * 6):
            for left, right in product(("", "0", "11"), ("", "1", "00")):
                standing = (len(machine), left, right)
                self.assertEqual(pile_step(machine, standing), standing)

    def test_drawn_steps(self):
        rng = random.Random(3)
        for _ in range(1000):
            machine = drawn_machine(rng)
            standing = (rng.randrange(len(machine) + 1), "".join(rng.choice("01") for _ in range(rng.randrange(4))),
                        "".join(rng.choice("01") for _ in range(rng.randrange(4))))
            self.assertEqual(pile_step(machine, standing), slow_step(machine, standing))

    def test_standings(self):
        for standing in ODD_VALUES + (
                (3, "", ""), (-1, "", ""), (True, "", ""), (False, "", ""), ("0", "", ""), (None, "", ""), (0, "2", ""), (0, "", "2"), (0, None, ""),
                (0, "", None), (0, 0, ""), (0, "", 1), (0, "", "", ""), (0, ""), [0, "", ""], (0, ("0",), ""), (0, "", ["1"]), ("", "", 0), ((0, "", ""),),
                (10 ** 39, "", ""), (0, "0 ", ""), (0, "", "\n")):
            self.bad(FLIP, standing)
        for machine in (GROW, FLIP, (STAY,) * 4):
            for state in range(6):
                if state <= len(machine):
                    self.assertEqual(pile_step(machine, (state, "0", "1")), slow_step(machine, (state, "0", "1")))
                else:
                    self.bad(machine, (state, "0", "1"))

    def bad(self, machine, standing):
        with self.assertRaises(BadStanding) as caught:
            pile_step(machine, standing)
        self.assertIs(caught.exception.thing, standing)


class RunTest(unittest.TestCase):
    def test_after_some_steps(self):
        self.assertEqual(standing_after(FLIP, "10", 0), (0, "10", ""))
        self.assertEqual(standing_after(FLIP, "10", 1), (0, "1", "0"))
        self.assertEqual(standing_after(FLIP, "10", 2), (0, "", "01"))
        for many in range(3, 7):
            self.assertEqual(standing_after(FLIP, "10", many), (min(many, 4) - 2, "", "01"))
        self.assertEqual(standing_after(GROW, "", 200), (0, "10" * 100, ""))

    def test_drawn_runs(self):
        rng = random.Random(4)
        for _ in range(300):
            machine = drawn_machine(rng)
            word = "".join(rng.choice("01") for _ in range(rng.randrange(7)))
            standing = (0, word, "")
            for many in range(201):
                if many < 30 or many > 198:
                    self.assertEqual(standing_after(machine, word, many), standing)
                standing = slow_step(machine, standing)

    def test_outcomes(self):
        rng = random.Random(5)
        for _ in range(300):
            machine = drawn_machine(rng)
            for c in range(4):
                word = "".join(rng.choice("01") for _ in range(rng.randrange(5)))
                d = rng.randrange(13)
                self.assertEqual(outcome(machine, c, d, word), standing_after(machine, word, len(word) ** c + d)[1])

    def test_clocks(self):
        for c, d, word, many in ((0, 0, "", 1), (0, 0, "0101", 1), (0, 5, "", 6), (1, 0, "", 0), (1, 0, "11", 2), (1, 7, "11", 9), (2, 0, "", 0),
                                 (2, 3, "000", 12), (3, 0, "", 0), (3, 12, "0000", 76), (2, 12, "000000", 48), (3, 1, "0", 2)):
            self.assertEqual(len(outcome(GROW, c, d, word)), len(word) + many)

    def test_halted_before_the_clock_has_run_out(self):
        for c, d in ((1, 4), (2, 12), (3, 12)):
            self.assertEqual(outcome(FLIP, c, d, "101"), "")
            self.assertEqual(outcome(((STAY[0], (1, "put1"), STAY[0]),), c, d, "100"), "1001")

    def test_errors(self):
        bad = ["bad"]
        for machine in ODD_VALUES + (STAY, [STAY], (((5, "stay"),) * 3,)):
            for function, others in ((pile_step, (bad,)), (standing_after, (bad, bad)), (outcome, (bad, bad, bad)), (outcome, (1, 1, "0"))):
                with self.assertRaises(BadMachine) as caught:
                    function(machine, *others)
                self.assertIs(caught.exception.thing, machine)

    def test_words_and_numbers(self):
        for word in ODD_VALUES:
            if type(word) is str and word.strip("01") == "":
                continue
            for function, others in ((standing_after, (["bad"],)), (standing_after, (3,))):
                with self.assertRaises(BadWord) as caught:
                    function(FLIP, word, *others)
                self.assertIs(caught.exception.thing, word)
            with self.assertRaises(BadWord) as caught:
                outcome(FLIP, 1, 1, word)
            self.assertIs(caught.exception.thing, word)
        for number in ODD_VALUES + (-10 ** 39,):
            if type(number) is int and number >= 0:
                continue
            for function, arguments in ((standing_after, (FLIP, "01", number)), (outcome, (FLIP, number, ["bad"], ["bad"])),
                                        (outcome, (FLIP, 1, number, ["bad"])), (outcome, (FLIP, number, 1, "0")), (outcome, (FLIP, 1, number, "0"))):
                with self.assertRaises(BadNumber) as caught:
                    function(*arguments)
                self.assertIs(caught.exception.thing, number)
