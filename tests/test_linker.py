"""Linking units [10.4]."""

import random
import unittest

from quicktongue import machine
from quicktongue.code import is_taken
from quicktongue.codebounds import code_bounds
from quicktongue.compiler import plain_unit
from quicktongue.errors import BadUnits
from quicktongue.linker import judge_link, link_holds
from quicktongue.polys import poly_value
from tests.slowbytes import slow_called, slow_form, slow_link_faults, slow_linked_run
from tests.slowcode import slow_is_unit, slow_unit_faults
from tests.support import ODD_VALUES, ProgramMaker, at_path, bent, replaced, sub_paths
from tests.unitmaker import UnitMaker, code_of, inputs

EMPTY = ((), (), ())
ADD = ((), (code_of(1, 1, 3, 1, "each l0 l1 l2; put s0 s0 1; end; give (s0)"),), (("add", 0),))
MORE = ((("add", 1, 1, 1),), (code_of(1, 0, 1, 1, "call 0 (l0) (s0) (s0); give (s0)"),), (("more", 0),))
TWO = ((("more", 1, 0, 1), ("add", 1, 1, 1)), (
    code_of(0, 1, 0, 1, "give (s0 s0)"), code_of(1, 0, 2, 3, "call 0 (l0) () (s0); call 1 (l0) (s0) (s1); call 2 () (s1) (s2 s0); give (s0 s1)")),
    (("both", 1), ("twin", 0)))


class LinkTest(unittest.TestCase):
    def certificates(self, units):
        """The judged certificate holds, and so does each right one alone; returns the right ones."""
        faults = slow_link_faults(units)
        judged = judge_link(units)
        if faults:
            self.assertIn(judged, faults)
        else:
            self.assertEqual(judged, ("linked", self.slow_linked(units)))
            self.assertIs(is_taken(judged[1]), True)
        right = faults or {judged}
        names = [show[0] for unit in units for show in unit[2]] + ["other"]
        for u in range(-1, len(units) + 1):
            for k in range(-1, 5):
                for word in ("lacks", "unlike"):
                    self.assertIs(link_holds(units, (word, u, k)), (word, u, k) in right)
            for name in names:
                self.assertIs(link_holds(units, ("twice", u, name)), ("twice", u, name) in right)
        for thing in right:
            self.assertIs(link_holds(units, thing), True)
        return right

    def slow_linked(self, units):
        """The linked unit: each call has the number that its function has."""
        starts = [sum(len(unit[1]) for unit in units[:u]) for u in range(len(units))]
        codes, shows = [], []
        for u, unit in enumerate(units):
            for code in unit[1]:
                rows = []
                for row in code[4]:
                    if row[0] == "call":
                        other, position = slow_called(units, u, row[1])
                        row = ("call", starts[other] + position) + row[2:]
                    rows.append(row)
                codes.append(code[:4] + (tuple(rows),))
            shows += [(name, starts[u] + position) for name, position in unit[2]]
        return (), tuple(codes), tuple(shows)

    def test_units_that_can_be_linked(self):
        for units in ((), (EMPTY,), (EMPTY, EMPTY, EMPTY), (ADD,), (ADD, MORE), (ADD, EMPTY, MORE), (ADD, MORE, TWO), (EMPTY, ADD, MORE, EMPTY, TWO)):
            right = self.certificates(units)
            self.assertEqual([thing[0] for thing in right], ["linked"])
        self.assertEqual(judge_link(()), ("linked", EMPTY))
        self.assertEqual(judge_link((ADD,)), ("linked", ADD))
        self.assertEqual(judge_link((EMPTY,)), ("linked", EMPTY))

    def test_calls_have_the_numbers_of_the_linked_unit(self):
        linked = judge_link((ADD, MORE, TWO))[1]
        self.assertEqual([row[1] for code in linked[1] for row in code[4] if row[0] == "call"], [0, 1, 0, 2])
        self.assertEqual(linked[2], (("add", 0), ("more", 1), ("both", 3), ("twin", 2)))
        self.assertEqual(linked[0], ())

    def test_a_need_that_no_unit_before_shows(self):
        self.assertEqual(self.certificates((MORE,)), {("lacks", 0, 0)})
        self.assertEqual(self.certificates((MORE, ADD)), {("lacks", 0, 0)})
        self.assertEqual(self.certificates((TWO,)), {("lacks", 0, 0), ("lacks", 0, 1)})
        self.assertEqual(self.certificates((ADD, TWO)), {("lacks", 1, 0)})
        self.assertEqual(self.certificates((EMPTY, ADD, TWO, MORE)), {("lacks", 2, 0)})

    def test_a_need_that_is_shown_with_other_numbers(self):
        for needs, right in ((("add", 2, 1, 1), ("unlike", 1, 0)), (("add", 1, 0, 1), ("unlike", 1, 0)), (("add", 1, 1, 2), ("unlike", 1, 0)),
                             (("adds", 1, 1, 1), ("lacks", 1, 0))):
            self.assertEqual(self.certificates((ADD, ((needs,), (), ()))), {right})
            self.assertEqual(self.certificates((ADD, EMPTY, ((("add", 1, 1, 1),), (), ()))), {("linked", ADD)})
            several = ((("add", 1, 1, 1),), (), ()), ((("add", 0, 0, 1), ("add2", 1, 1, 1)), (), ())
            self.assertEqual(self.certificates((ADD,) + several), {("unlike", 2, 0), ("lacks", 2, 1)})

    def test_a_name_shown_twice(self):
        self.assertEqual(self.certificates((ADD, ADD)), {("twice", 1, "add")})
        self.assertEqual(self.certificates((ADD, ADD, EMPTY, ADD)), {("twice", 1, "add"), ("twice", 3, "add")})
        both = ((), ADD[1] * 2, (("add", 1), ("more", 0)))
        self.assertEqual(self.certificates((both, ADD)), {("twice", 1, "add")})
        self.assertEqual(self.certificates((both, both)), {("twice", 1, "add"), ("twice", 1, "more")})

    def test_one_function_shown_by_several_names(self):
        unit = ((), ADD[1], (("first", 0), ("other", 0)))
        user = ((("other", 1, 1, 1), ("first", 1, 1, 1)), (code_of(1, 1, 1, 1, "call 0 (l0) (s0) (s0); call 1 (l0) (s0) (s0); give (s0)"),), ())
        self.certificates((unit, user))
        self.assertEqual(judge_link((unit, user))[1][1][1][4], (("call", 0, (("l", 0),), (("s", 0),), (("s", 0),)),) * 2 + (("give", (("s", 0),)),))

    def test_a_name_shown_twice_with_other_numbers(self):
        other = ((), (code_of(0, 0, 0, 1, "give (s0)"),), (("add", 0),))
        need = ((("add", 1, 1, 1),), (), ())
        self.assertEqual(self.certificates((ADD, other, need)), {("twice", 1, "add"), ("unlike", 2, 0)})
        self.assertEqual(self.certificates((other, ADD, need)), {("twice", 1, "add"), ("unlike", 2, 0)})
        self.assertEqual(self.certificates((ADD, need, other)), {("twice", 2, "add")})

    def test_a_name_needed_and_shown_by_the_same_unit(self):
        own = ((("f", 1, 1, 1),), ADD[1], (("f", 0),))
        self.assertEqual(self.certificates((own,)), {("lacks", 0, 0)})
        before = ((), ADD[1], (("f", 0),))
        self.assertEqual(self.certificates((before, own)), {("twice", 1, "f")})
        self.assertEqual(self.certificates((own, own)), {("lacks", 0, 0), ("twice", 1, "f")})
        unlike = ((("f", 1, 2, 1),), ADD[1], (("f", 0),))
        self.assertEqual(self.certificates((before, unlike)), {("unlike", 1, 0), ("twice", 1, "f")})

    def test_certificates_with_a_part_otherwise(self):
        rng = random.Random(1)
        for units in ((ADD, MORE, TWO), (MORE,), (ADD, ADD), (ADD, ((("add", 0, 1, 1),), (), ()))):
            right = judge_link(units)
            for _ in range(300):
                thing = bent(right, rng)
                self.assertIs(link_holds(units, thing), thing == right and repr(thing) == repr(right))
            for thing in ODD_VALUES + (list(right), right + (0,), right[:-1], right[:1], (right,), ("linked",), ("linked", units), ("linked", ADD),
                                       ("linked", None), ("linked", MORE)):
                self.assertIs(link_holds(units, thing), False)
        self.assertIs(link_holds((MORE,), ("lacks", False, 0)), False)
        self.assertIs(link_holds((ADD, ADD), ("twice", True, "add")), False)
        linked = judge_link((ADD,))
        for path in sub_paths(linked):
            part = at_path(linked, path)
            other = list(part) if type(part) is tuple else part + part if type(part) is str else part + 1
            self.assertIs(link_holds((ADD,), replaced(linked, path, other)), False)
            if part in (0, 1):
                self.assertIs(link_holds((ADD,), replaced(linked, path, bool(part))), False)

    def test_values_that_are_no_units(self):
        faulty = ((), (code_of(1, 1, 1, 1, "give (l1)"),), ())
        for units in ODD_VALUES + (ADD, [ADD], (ADD, None), (ADD, [ADD]), (faulty,), (ADD, faulty), (faulty, ADD), {"unit": ADD}, ((ADD, MORE),), (list(ADD),)):
            if units == ():
                continue
            self.bad(units)
        rng = random.Random(2)
        for _ in range(400):
            units = bent((ADD, MORE, TWO), rng)
            right = type(units) is tuple and all(slow_is_unit(unit) and not slow_unit_faults(unit) for unit in units)
            if right:
                self.certificates(units)
            else:
                self.bad(units)

    def bad(self, units):
        for function in (judge_link, lambda units: link_holds(units, ["thing"])):
            with self.assertRaises(BadUnits) as caught:
                function(units)
            self.assertIs(caught.exception.thing, units)


class ManyUnitsTest(unittest.TestCase):
    def drawn(self, rng, seed):
        """Units of which each one needs what those before it show, often."""
        shown = []
        units = []
        for u in range(rng.randrange(5)):
            maker = UnitMaker(seed * 10 + u, False)
            needs = []
            if shown:
                for name, *form in rng.sample(shown, rng.randrange(len(shown) + 1))[:3]:
                    needs.append((name, *form))
            if rng.random() < 0.1:
                needs.append(("none_such", 0, 0, 1))
            maker.callees = [need[1:] for need in needs]
            codes = []
            for _ in range(rng.randrange(3)):
                code = maker.code()
                codes.append(code)
                maker.callees.append((code[0], code[1], len(code[4][-1][1])))
            shows = []
            for at in range(len(codes)):
                if rng.random() < 0.8:
                    name = "f%d_%d" % (u, at) if rng.random() < 0.9 or not shown else rng.choice(shown)[0]
                    if name not in [show[0] for show in shows]:
                        shows.append((name, at))
            unit = (tuple(needs), tuple(codes), tuple(shows))
            known = [name for name, *_ in shown]
            shown += [(name, *slow_form(unit, at)) for name, at in shows if name not in known]
            units.append(unit)
        return tuple(units)

    def test_drawn_units(self):
        rng = random.Random(3)
        linked = runs = faults = 0
        for seed in range(300):
            units = self.drawn(rng, seed)
            self.assertTrue(all(is_taken(unit) for unit in units))
            LinkTest.certificates(self, units)
            if judge_link(units)[0] != "linked":
                faults += 1
                continue
            linked += 1
            runs += self.same_runs(units, judge_link(units)[1], rng)
        self.assertGreater(min(linked, faults), 30)
        self.assertGreater(runs, 150)

    slow_linked = LinkTest.slow_linked

    def same_runs(self, units, unit, rng):
        """The runs of the linked unit are those of its parts put together, and within its bounds."""
        table = code_bounds(unit)
        number = runs = 0
        for u, (_, codes, _) in enumerate(units):
            for position, code in enumerate(codes):
                leads, softs = inputs(rng, code, 4)
                q, p = table[number]
                lengths = tuple(len(word) for word in leads)
                if poly_value(len(leads), p, lengths) <= 4000:
                    told = machine.run(unit, number, leads, softs)
                    self.assertEqual(told, slow_linked_run(units, u, position, leads, softs))
                    self.assertLessEqual(told[1], poly_value(len(leads), p, lengths))
                    runs += 1
                number += 1
        return runs

    def test_the_parts_of_a_plain_unit(self):
        rng = random.Random(4)
        for seed in range(150):
            unit = plain_unit(ProgramMaker(seed).program())
            cuts = sorted(rng.randrange(len(unit[1]) + 1) for _ in range(rng.randrange(5)))
            bounds = [0] + cuts + [len(unit[1])]
            units = tuple(self.part(unit, first, last) for first, last in zip(bounds, bounds[1:]))
            self.assertEqual(judge_link(units), ("linked", unit))
            self.assertIs(link_holds(units, ("linked", unit)), True)
            shown = [show for part in units for show in part[2]]
            self.assertEqual([name for name, _ in shown], [name for name, _ in unit[2]])

    def part(self, unit, first, last):
        """The codes of a unit from one position to another one as a unit that needs those before them."""
        called = sorted({row[1] for code in unit[1][first:last] for row in code[4] if row[0] == "call" and row[1] < first})
        needs = tuple((unit[2][number][0], *slow_form(unit, number)) for number in called)
        numbers = {number: at for at, number in enumerate(called)}
        numbers.update({number: len(called) + number - first for number in range(first, last)})
        codes = []
        for code in unit[1][first:last]:
            rows = tuple(row[:1] + (numbers[row[1]],) + row[2:] if row[0] == "call" else row for row in code[4])
            codes.append(code[:4] + (rows,))
        return needs, tuple(codes), tuple((name, at - first) for name, at in unit[2][first:last])

    def test_at_the_limits(self):
        units = []
        names = ["f%d" % k for k in range(12)]
        for u in range(6):
            needs = tuple((name + "_%d" % (u - 1), 1, 1, 1) for name in names) if u else ()
            rows = ["call %d (l0) (s%d) (s%d)" % (k % 12, k % 40, (k + 1) % 40) for k in range(119)] if u else []
            codes = tuple(code_of(1, 1, 40, 40, "; ".join(rows + ["give (s0)"])) for _ in names)
            units.append((needs, codes, tuple((name + "_%d" % u, at) for at, name in enumerate(names))))
        told = judge_link(tuple(units))
        self.assertEqual(told[0], "linked")
        self.assertEqual(len(told[1][1]), 72)
        self.assertEqual([row[1] for row in told[1][1][71][4][:-1]], [48 + k % 12 for k in range(119)])
        self.assertIs(is_taken(told[1]), True)
        self.assertIs(link_holds(tuple(units), told), True)
