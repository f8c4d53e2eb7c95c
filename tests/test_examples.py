"""The examples of the document, as they stand there."""

import unittest

from quicktongue import errors

TEXTS = r'''
>>> from quicktongue.trees import is_name, is_term, is_tree, is_word
>>> from quicktongue.texts import read, written
>>> TURNED = 'fun turned(x;) own s\n  each x as r, l\n    when l\n      zero\n        set s = s + 0\n      one\n        set s = s + 1\n  give s'
>>> [is_word('0120'), is_name('x_1'), is_name('own'), is_term(('put', ('word', ''), '1')), is_tree(()), read(TURNED) == (('fun', 'turned', ('x',), (), ('s',), (('each', 'x', 'r', 'l', (('when', ('name', 'l'), (), (('set', ('s',), ('put', ('name', 's'), '0')),), (('set', ('s',), ('put', ('name', 's'), '1')),)),)),), (('name', 's'),)),), written(read(TURNED)) == TURNED]
[False, True, False, True, True, True, True]
>>> [written((('fun', 'f', (), ('a', 'b'), (), (), (('cut', ('put', ('cut', ('name', 'a')), '0')), ('call', 'g', (), (('word', '01'),)))),)), read('fun f(x;)   # one line\n\n     give ((cut x)+0)  ')]
['fun f(; a, b)\n  give cut (cut a + 0), g(; "01")', (('fun', 'f', ('x',), (), (), (), (('put', ('cut', ('name', 'x')), '0'),)),)]
>>> read('fun f(x;)\n  set x = y')
raises BadText(at=3)
>>> read('fun f(x;)\n  none')
raises BadText(at=2)
'''

LEVELS = r'''
>>> from quicktongue.levels import is_program, is_raw, judge_levels, judge_split, levels_hold, names_at, split_holds
>>> from quicktongue.texts import read
>>> GROW = read('fun marks(x; a)\n  each x as r, l\n    set a = a + 1\n  give a')
>>> TWICE = read('fun bad(x; a)\n  each a as r, l\n    set a = a + 1\n  give b')
>>> [judge_levels(GROW), levels_hold(TWICE, ('level', (0, 5, 0, 1), (0, 5, 0, 1))), levels_hold(TWICE, ('unknown', (0, 6, 0))), is_program(TWICE), names_at(GROW, (0, 5, 0, 4, 0))]
[('fit',), True, True, False, (('l', 'r', 'x'), ('a',))]
>>> RAW = (('raw', 'marks', ('a', 'x'), (), (('each', 'x', 'r', 'l', (('set', ('a',), ('put', ('name', 'a'), '1')),)),), (('name', 'a'),)),)
>>> [is_raw(RAW), judge_split(RAW) == ('split', GROW), judge_split((('raw', 'f', ('a',), (), (('set', ('a',), ('word', '1')), ('each', 'a', 'r', 'l', ())), (('name', 'a'),)),)), split_holds(RAW, ('none',))]
[True, True, ('none',), False]
'''

MEANING = r'''
>>> from quicktongue.meaning import run, trace
>>> from quicktongue.texts import read
>>> PAIR = read('fun marks(x; a)\n  each x as r, l\n    set a = a + 1\n  give a\nfun times(x, y; a)\n  each x as r, l\n    set a = marks(y; a)\n  give a, cut a')
>>> [run(PAIR, 'marks', ('010',), ('0',)), run(PAIR, 'times', ('00', '000'), ('',)), trace(PAIR, 'marks', ('10',), ('',))]
[(('0111',), 14), (('111111', '11111'), 42), (((0, 5, 0), ('',)), ((0, 5, 0, 4, 0), ('',)), ((0, 5, 0, 4, 0), ('1',)))]
'''

BOUNDS = r'''
>>> from quicktongue.polys import is_at_most, is_poly, poly_greater, poly_product, poly_sum, poly_value, put_in
>>> X, ONE = (((1,), 1),), (((0,), 1),)
>>> [is_poly(1, (((1,), 0),)), poly_sum(1, X, ONE), poly_product(1, poly_sum(1, X, ONE), poly_sum(1, X, ONE)), poly_greater(1, (((0,), 3), ((1,), 1)), (((0,), 1), ((2,), 5))), put_in(1, (((2,), 1),), 1, (poly_sum(1, X, ONE),)), poly_value(2, (((0, 2), 3), ((1, 0), 1)), (4, 5)), is_at_most(1, X, ONE)]
[False, (((0,), 1), ((1,), 1)), (((0,), 1), ((1,), 2), ((2,), 1)), (((0,), 3), ((1,), 1), ((2,), 5)), (((0,), 1), ((1,), 2), ((2,), 1)), 79, False]
>>> from quicktongue.bounds import bounds, judge_table, table_holds
>>> from quicktongue.texts import read
>>> PAIR = read('fun marks(x; a)\n  each x as r, l\n    set a = a + 1\n  give a\nfun times(x, y; a)\n  each x as r, l\n    set a = marks(y; a)\n  give a, cut a')
>>> bounds(PAIR)
(((((1,), 1),), (((0,), 2), ((1,), 4))), ((((1, 1), 1),), (((0, 0), 4), ((1, 0), 7), ((1, 1), 4))))
>>> [judge_table(PAIR, bounds(PAIR)), table_holds(PAIR, ((X, X), ((), ())), ('short', 0, (0,), 1))]
[('right',), True]
'''

SHELF = r'''
>>> from quicktongue.meaning import run
>>> from quicktongue.shelf import number_of, plain_word, shelf
>>> [run(shelf(), 'turned', ('0011',), ())[0], run(shelf(), 'joined', ('01',), ('11',))[0], run(shelf(), 'sorted', ('1010',), ())[0], run(shelf(), 'next', ('0111',), ())[0], run(shelf(), 'plus', ('11', '101'), ())[0], run(shelf(), 'less', ('10', '010'), ())[0], run(shelf(), 'product', ('11', '101'), ())[0], number_of('0110'), plain_word(0), plain_word(10)]
[('1100',), ('1101',), ('0011',), ('1000',), ('1000',), ('',), ('1111',), 6, '', '1010']
'''

SIMPLIFY = r'''
>>> from quicktongue.simplify import behind_step, is_step, needed_behind, simplified, simplifying, steps_from
>>> from quicktongue.texts import read, written
>>> ONE = read('fun f(x; y)\n  let z = x\n  set y = cut (y + 1)\n  each z as r, a\n  give y')
>>> [steps_from(ONE), needed_behind(ONE, (0, 5, 0)), is_step(ONE, ('dead', (0, 5, 0)))]
[(('dead', (0, 5, 2)), ('same', (0, 5, 1, 2))), ('y',), False]
>>> [simplifying(ONE), written(simplified(ONE))]
[(('dead', (0, 5, 2)), ('dead', (0, 5, 0)), ('same', (0, 5, 0, 2))), 'fun f(x; y)\n  set y = y\n  give y']
>>> TWO = read('fun g(; y) own s\n  set s = "01"\n  when y + 0\n    none\n      set y = s\n    zero\n      set y = cut "10"\n  give y')
>>> [steps_from(TWO), simplifying(TWO), written(simplified(TWO))]
[(('choice', (0, 5, 1)), ('known', (0, 5, 1, 3, 0, 2))), (('choice', (0, 5, 1)), ('dead', (0, 5, 0)), ('known', (0, 5, 0, 2))), 'fun g(; y) own s\n  set y = "1"\n  give y']
'''

CODE = r'''
>>> from quicktongue.code import first_fault, is_taken, is_unit, set_ahead
>>> from quicktongue.codebounds import code_bounds
>>> rows = (("each", ("l", 0), ("l", 1), ("l", 2)), ("put", ("s", 0), ("s", 0), "1"), ("end",), ("give", (("s", 0),)))
>>> unit = ((), ((1, 1, 3, 1, rows),), (("add", 0),))
>>> [is_unit(unit), first_fault(unit), set_ahead(unit, 0, 1), set_ahead(unit, 0, 3), code_bounds(unit)]
[True, None, (('l', 0), ('l', 1), ('l', 2)), (('l', 0),), (((((1,), 1),), (((0,), 2), ((1,), 2))),)]
>>> [first_fault(((), ((1, 1, 3, 1, rows[:3]),), ())), first_fault(((), ((1, 1, 2, 1, rows),), ())), first_fault(((), ((0, 1, 1, 1, (("move", ("l", 0), ("s", 0)), ("give", (("l", 0),)))),), ())), is_taken(((), ((0, 1, 1, 1, (("give", (("l", 0),)),)),), ()))]
[(0, 3, 'shape'), (0, 0, 'register'), (0, 0, 'level'), False]
'''

MACHINE = r'''
>>> from quicktongue.machine import beginning, is_standing, rest_of_run, run, step
>>> rows = (("each", ("l", 0), ("l", 1), ("l", 2)), ("put", ("s", 0), ("s", 0), "1"), ("end",), ("give", (("s", 0),)))
>>> unit = ((), ((1, 1, 3, 1, rows),), (("add", 0),))
>>> [run(unit, 0, ("011",), ("0",)), beginning(unit, 0, ("011",), ("0",)), step(unit, ((0, 0, ("011", None, None), ("0",), ()),))]
[(('0111',), 8), ((0, 0, ('011', None, None), ('0',), ()),), (((0, 1, ('011', '01', '1'), ('0',), ('01',)),), 2)]
>>> [step(unit, ((0, 1, ("011", "", "0"), ("011",), ("",)),)), rest_of_run(unit, ((0, 1, ("011", "", "0"), ("011",), ("",)),)), is_standing(unit, ((0, 2, ("011", "", "0"), ("0",), ("",)),)), step(unit, ("ended", ("0",)))]
[(((0, 3, ('011', None, None), ('0111',), ()),), 1), (('0111',), 2), False, None]
'''

REGISTERS = r'''
>>> from quicktongue.compiler import homes, plain_unit
>>> from quicktongue.registers import judge_sharing, needed_behind_row, shared, sharing_holds
>>> from quicktongue.texts import read
>>> ADD = read('fun add(x; y)\n  each x as r, a\n    set y = y + 1\n  give y')
>>> UNIT = plain_unit(ADD)
>>> UNIT
((), ((1, 1, 3, 2, (('each', ('l', 0), ('l', 1), ('l', 2)), ('put', ('s', 1), ('s', 0), '1'), ('move', ('s', 0), ('s', 1)), ('end',), ('give', (('s', 0),)))),), (('add', 0),))
>>> [homes(ADD), needed_behind_row(UNIT, 0, 1), judge_sharing(UNIT, (((0, 1, 2), (0, 0)),)), sharing_holds(UNIT, (((0, 1, 1), (0, 0)),), ('clash', 0, 0, ('l', 1), ('l', 2)))]
[(((0, 5, 0), (0, 5, 0, 4, 0), (0, 5, 0, 4, 0), (0, 5, 0), (0, 6)),), (('s', 1),), ('apart',), True]
>>> shared(UNIT, (((0, 1, 2), (0, 0)),))[1]
((1, 1, 3, 1, (('each', ('l', 0), ('l', 1), ('l', 2)), ('put', ('s', 0), ('s', 0), '1'), ('move', ('s', 0), ('s', 0)), ('end',), ('give', (('s', 0),)))),)
'''

BYTES = r'''
>>> from quicktongue.bytework import bytes_of, unit_of
>>> from quicktongue.loader import load, load_bounds
>>> rows = (("each", ("l", 0), ("l", 1), ("l", 2)), ("put", ("s", 0), ("s", 0), "1"), ("end",), ("give", (("s", 0),)))
>>> unit = ((), ((1, 1, 3, 1, rows),), (("add", 0),))
>>> [bytes_of(unit), unit_of(bytes_of(unit)) == unit, load_bounds(bytes_of(unit))]
[(81, 84, 0, 1, 1, 1, 3, 1, 10, 0, 1, 2, 3, 128, 128, 1, 9, 11, 1, 128, 1, 3, 97, 100, 100, 0), True, (((((1,), 1),), (((0,), 2), ((1,), 2))),)]
>>> unit_of((81, 84, 0, 0, 1))
raises BadBytes(at=4)
>>> unit_of((81, 84, 0, 1, 1, 1, 3, 1, 12))
raises BadBytes(at=8)
>>> load((81, 84, 0, 1, 0, 1, 1, 1, 11, 1, 0, 0))
raises BadUnit(thing=((), ((0, 1, 1, 1, (('give', (('l', 0),)),)),), ()))
>>> from quicktongue.assembler import text_of_unit, unit_of_text
>>> from quicktongue.linker import judge_link, link_holds
>>> other = ((("add", 1, 1, 1),), ((1, 0, 1, 1, (("call", 0, (("l", 0),), (("s", 0),), (("s", 0),)), ("give", (("s", 0),)))),), (("more", 0),))
>>> [text_of_unit(other), judge_link((other,)), judge_link((unit, other))[1][1][1], link_holds((unit, unit), ("twice", 1, "add"))]
['needs add 1 1 1\ncode 1 0 1 1\ncall 0 (l0) (s0) (s0)\ngive (s0)\nshow more 0', ('lacks', 0, 0), (1, 0, 1, 1, (('call', 0, (('l', 0),), (('s', 0),), (('s', 0),)), ('give', (('s', 0),)))), True]
>>> unit_of_text('code 0 0 0 0\ngive (s0')
raises BadText(at=2)
'''

MADE = r'''
>>> from quicktongue.made import clock_program, made
>>> from quicktongue.meaning import run
>>> from quicktongue.piles import is_machine, outcome, pile_step, standing_after
>>> FLIP = (((1, 'stay'), (0, 'over'), (0, 'over')), ((2, 'stay'), (2, 'stay'), (2, 'stay')))
>>> [is_machine(FLIP), pile_step(FLIP, (0, '10', '')), standing_after(FLIP, '10', 3), outcome(FLIP, 1, 0, '101'), outcome(FLIP, 1, 0, '')]
[True, (0, '1', '0'), (1, '', '01'), '', '']
>>> PROGRAM = made((((1, 'stay'), (0, 'cut'), (1, 'put1')),), 1, 1)
>>> [run(PROGRAM, PROGRAM[-1][1], ('1000',), ())[0], outcome((((1, 'stay'), (0, 'cut'), (1, 'put1')),), 1, 1, '1000'), run(clock_program(2, 3), clock_program(2, 3)[-1][1], ('01',), ())[0]]
[('11',), '11', ('1111111',)]
'''

CHAIN = r'''
>>> from quicktongue.outwit import does_err, outwit, text_of_word, word_of_text
>>> from quicktongue.texts import read
>>> FIRST = read('fun f(p, x;)\n  give cut x')
>>> [word_of_text('a0'), text_of_word('11000010110000'), text_of_word('1')]
['11000010110000', 'a0', None]
>>> OTHER, WORD = outwit(FIRST, 'f')
>>> [len(OTHER), does_err(FIRST, 'f', OTHER, WORD), does_err(FIRST, 'f', read('fun g(x;)\n  give cut x'), '0101')]
[2, True, False]
>>> from quicktongue.chain import chained
>>> chained(read('fun marks(x; a)\n  each x as r, l\n    set a = a + 1\n  give a'), 'marks', ('010',), ('0',))[0]
('0111',)
'''


class ExamplesTest(unittest.TestCase):
    def check(self, examples):
        """Runs the lines behind >>>; the line below one is what it returns or raises."""
        lines = examples.strip("\n").split("\n")
        known = {}
        checked = 0
        for at, line in enumerate(lines):
            if not line.startswith(">>> "):
                continue
            told = lines[at + 1] if at + 1 < len(lines) and not lines[at + 1].startswith(">>> ") else None
            if told is None:
                exec(line[4:], known)
            elif told.startswith("raises "):
                self.check_error(line[4:], known, eval(told[len("raises "):], dict(vars(errors))))
                checked += 1
            else:
                self.assertEqual(repr(eval(line[4:], known)), told)
                checked += 1
        return checked

    def check_error(self, line, known, error):
        with self.assertRaises(type(error)) as caught:
            eval(line, known)
        self.assertEqual(vars(caught.exception), vars(error))

    def test_texts(self):
        self.assertEqual(self.check(TEXTS), 4)

    def test_levels(self):
        self.assertEqual(self.check(LEVELS), 2)

    def test_meaning(self):
        self.assertEqual(self.check(MEANING), 1)

    def test_bounds(self):
        self.assertEqual(self.check(BOUNDS), 3)

    def test_shelf(self):
        self.assertEqual(self.check(SHELF), 1)

    def test_simplify(self):
        self.assertEqual(self.check(SIMPLIFY), 3)

    def test_code(self):
        self.assertEqual(self.check(CODE), 2)

    def test_machine(self):
        self.assertEqual(self.check(MACHINE), 2)

    def test_registers(self):
        self.assertEqual(self.check(REGISTERS), 3)

    def test_bytes(self):
        self.assertEqual(self.check(BYTES), 6)

    def test_made(self):
        self.assertEqual(self.check(MADE), 2)

    def test_chain(self):
        self.assertEqual(self.check(CHAIN), 3)
