"""The examples of the document, as they stand there."""

import unittest

from quicktongue import errors

TEXTS = r'''
>>> from quicktongue.trees import is_name, is_term, is_tree, is_word
>>> from quicktongue.texts import read, written
>>> TURNED = 'fun turned(x;) own s\n  each x as r, l\n    when l\n      zero\n        set s = s + 0\n      one\n        set s = s + 1\n  give s'
>>> [is_word('0120'), is_name('x_1'), is_name('own'), is_term(('put', ('word', ''), '1')), is_tree(()), read(TURNED) == (('fun', 'turned', ('x',), (), ('s',), (('each', 'x', 'r', 'l', (('when', ('name', 'l'), (), (('set', ('s',), ('put', ('name', 's'), '0')),), (('set', ('s',), ('put', ('name', 's'), '1')),)),)),), (('name', 's'),)),), written(read(TURNED)) == TURNED]
[False, True, False, True, True, True, True]
>>> [written((('fun', 'f', (), ('a', 'b'), (), (), (('cut', ('put', ('cut', ('name', 'a')), '0')), ('call', 'g', (), (('word', '01'),)))),)), read('fun f(x;)   # one line\n\n     give ((cut x)+0)  ')]
['fun f(; a, b)\n  give cut (cut a + 0), g(; "01")', (('fun', 'f', ('x',), (), (), (), (('put', ('cut', ('name', 'x')), '0'),)),)]
>>> read('fun f(x;)\n  set x = y')
raises BadText(at=3)
>>> read('fun f(x;)\n  none')
raises BadText(at=2)
'''

LEVELS = r'''
>>> from quicktongue.levels import is_program, is_raw, judge_levels, judge_split, levels_hold, names_at, split_holds
>>> from quicktongue.texts import read
>>> GROW = read('fun marks(x; a)\n  each x as r, l\n    set a = a + 1\n  give a')
>>> TWICE = read('fun bad(x; a)\n  each a as r, l\n    set a = a + 1\n  give b')
>>> [judge_levels(GROW), levels_hold(TWICE, ('level', (0, 5, 0, 1), (0, 5, 0, 1))), levels_hold(TWICE, ('unknown', (0, 6, 0))), is_program(TWICE), names_at(GROW, (0, 5, 0, 4, 0))]
[('fit',), True, True, False, (('l', 'r', 'x'), ('a',))]
>>> RAW = (('raw', 'marks', ('a', 'x'), (), (('each', 'x', 'r', 'l', (('set', ('a',), ('put', ('name', 'a'), '1')),)),), (('name', 'a'),)),)
>>> [is_raw(RAW), judge_split(RAW) == ('split', GROW), judge_split((('raw', 'f', ('a',), (), (('set', ('a',), ('word', '1')), ('each', 'a', 'r', 'l', ())), (('name', 'a'),)),)), split_holds(RAW, ('none',))]
[True, True, ('none',), False]
'''

MEANING = r'''
>>> from quicktongue.meaning import run, trace
>>> from quicktongue.texts import read
>>> PAIR = read('fun marks(x; a)\n  each x as r, l\n    set a = a + 1\n  give a\nfun times(x, y; a)\n  each x as r, l\n    set a = marks(y; a)\n  give a, cut a')
>>> [run(PAIR, 'marks', ('010',), ('0',)), run(PAIR, 'times', ('00', '000'), ('',)), trace(PAIR, 'marks', ('10',), ('',))]
[(('0111',), 14), (('111111', '11111'), 42), (((0, 5, 0), ('',)), ((0, 5, 0, 4, 0), ('',)), ((0, 5, 0, 4, 0), ('1',)))]
'''

BOUNDS = r'''
>>> from quicktongue.polys import is_at_most, is_poly, poly_greater, poly_product, poly_sum, poly_value, put_in
>>> X, ONE = (((1,), 1),), (((0,), 1),)
>>> [is_poly(1, (((1,), 0),)), poly_sum(1, X, ONE), poly_product(1, poly_sum(1, X, ONE), poly_sum(1, X, ONE)), poly_greater(1, (((0,), 3), ((1,), 1)), (((0,), 1), ((2,), 5))), put_in(1, (((2,), 1),), 1, (poly_sum(1, X, ONE),)), poly_value(2, (((0, 2), 3), ((1, 0), 1)), (4, 5)), is_at_most(1, X, ONE)]
[False, (((0,), 1), ((1,), 1)), (((0,), 1), ((1,), 2), ((2,), 1)), (((0,), 3), ((1,), 1), ((2,), 5)), (((0,), 1), ((1,), 2), ((2,), 1)), 79, False]
>>> from quicktongue.bounds import bounds, judge_table, table_holds
>>> from quicktongue.texts import read
>>> PAIR = read('fun marks(x; a)\n  each x as r, l\n    set a = a + 1\n  give a\nfun times(x, y; a)\n  each x as r, l\n    set a = marks(y; a)\n  give a, cut a')
>>> bounds(PAIR)
(((((1,), 1),), (((0,), 2), ((1,), 4))), ((((1, 1), 1),), (((0, 0), 4), ((1, 0), 7), ((1, 1), 4))))
>>> [judge_table(PAIR, bounds(PAIR)), table_holds(PAIR, ((X, X), ((), ())), ('short', 0, (0,), 1))]
[('right',), True]
'''


class ExamplesTest(unittest.TestCase):
    def check(self, examples):
        """Runs the lines behind >>>; the line below one is what it returns or raises."""
        lines = examples.strip("\n").split("\n")
        known = {}
        checked = 0
        for at, line in enumerate(lines):
            if not line.startswith(">>> "):
                continue
            told = lines[at + 1] if at + 1 < len(lines) and not lines[at + 1].startswith(">>> ") else None
            if told is None:
                exec(line[4:], known)
            elif told.startswith("raises "):
                self.check_error(line[4:], known, eval(told[len("raises "):], dict(vars(errors))))
                checked += 1
            else:
                self.assertEqual(repr(eval(line[4:], known)), told)
                checked += 1
        return checked

    def check_error(self, line, known, error):
        with self.assertRaises(type(error)) as caught:
            eval(line, known)
        self.assertEqual(vars(caught.exception), vars(error))

    def test_texts(self):
        self.assertEqual(self.check(TEXTS), 4)

    def test_levels(self):
        self.assertEqual(self.check(LEVELS), 2)

    def test_meaning(self):
        self.assertEqual(self.check(MEANING), 1)

    def test_bounds(self):
        self.assertEqual(self.check(BOUNDS), 3)
