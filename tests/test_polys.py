"""Polynomials [4.1]."""

import random
import unittest

from quicktongue.errors import BadInputs, BadPoly
from quicktongue.polys import is_at_most, is_poly, poly_greater, poly_product, poly_sum, poly_value, put_in
from tests.support import ODD_VALUES

X, ONE, TEN = (((1,), 1),), (((0,), 1),), (((0,), 10),)
SQUARE = (((0,), 3), ((1,), 2), ((2,), 5))
WRONG = (
    (((1,), 0),), (((1,), -1),), (((-1,), 1),), (((1,), True),), (((True,), 1),), (((1,), False),), (((1,), "1"),),
    (((1,), None),), ((("1",), 1),), ((1, 1),), (((1, 1), 1),), (((), 1),), (((1,), 1), ((0,), 1)),
    (((1,), 1), ((1,), 1)), (((1,), 1), ((1,), 2)), (((0,), 1), ((2,), 1), ((1,), 1)), [((1,), 1)], ([(1,), 1],),
    (([1], 1),), (((1,), 1, 1),), (((1,),),), ((),), ((1,), 1), (((1,), 1), None), None, 0, 1, "", {}, (None,), ((((1,),), 1),),
)


def random_poly(rng, k, exponent=4, many=20, coefficient=10 ** 6):
    table = {}
    for _ in range(rng.randrange(many + 1)):
        exponents = tuple(rng.randrange(exponent + 1) for _ in range(k))
        table[exponents] = rng.choice((1, 2, rng.randrange(1, coefficient + 1)))
    return tuple(sorted(table.items()))


class IsPolyTest(unittest.TestCase):
    def test_right_ones(self):
        for k, poly in ((0, ()), (1, ()), (3, ()), (0, (((), 1),)), (1, X), (1, SQUARE), (2, (((0, 5), 1), ((1, 0), 1))),
                        (3, (((0, 0, 0), 10 ** 6), ((0, 0, 1), 1), ((4, 4, 4), 7)))):
            self.assertIs(is_poly(k, poly), True, poly)

    def test_other_things(self):
        for thing in WRONG:
            self.assertIs(is_poly(1, thing), False, thing)
        self.assertIs(is_poly(0, (((), 1), ((), 2))), False)
        self.assertIs(is_poly(2, (((1, 0), 1), ((0, 5), 1))), False)
        self.assertIs(is_poly(2, (((1, False), 1),)), False)
        for k in range(4):
            for other in range(4):
                self.assertIs(is_poly(k, (((0,) * other, 1),)), k == other)

    def test_any_values(self):
        for thing in ODD_VALUES:
            for k in range(4):
                self.assertIs(is_poly(k, thing), thing == ())


class WorkTest(unittest.TestCase):
    def test_sum(self):
        self.assertEqual(poly_sum(1, X, ONE), (((0,), 1), ((1,), 1)))
        self.assertEqual(poly_sum(1, SQUARE, X), (((0,), 3), ((1,), 3), ((2,), 5)))
        self.assertEqual(poly_sum(1, (), ()), ())
        self.assertEqual(poly_sum(1, (), X), X)
        self.assertEqual(poly_sum(1, X, ()), X)
        self.assertEqual(poly_sum(0, (((), 4),), (((), 5),)), (((), 9),))
        self.assertEqual(poly_sum(2, (((0, 1), 1),), (((1, 0), 1),)), (((0, 1), 1), ((1, 0), 1)))

    def test_product(self):
        self.assertEqual(poly_product(1, X, ()), ())
        self.assertEqual(poly_product(1, (), X), ())
        self.assertEqual(poly_product(1, ONE, SQUARE), SQUARE)
        self.assertEqual(poly_product(1, X, SQUARE), (((1,), 3), ((2,), 2), ((3,), 5)))
        self.assertEqual(poly_product(1, SQUARE, SQUARE),
                         (((0,), 9), ((1,), 12), ((2,), 34), ((3,), 20), ((4,), 25)))
        self.assertEqual(poly_product(2, (((0, 1), 2), ((1, 0), 3)), (((0, 1), 3), ((1, 0), 2))),
                         (((0, 2), 6), ((1, 1), 13), ((2, 0), 6)))
        self.assertEqual(poly_product(0, (((), 4),), (((), 5),)), (((), 20),))

    def test_greater(self):
        self.assertEqual(poly_greater(1, (), X), X)
        self.assertEqual(poly_greater(1, X, ()), X)
        self.assertEqual(poly_greater(1, (((0,), 3), ((1,), 1)), (((0,), 1), ((2,), 5))),
                         (((0,), 3), ((1,), 1), ((2,), 5)))
        self.assertEqual(poly_greater(1, TEN, ONE), TEN)
        self.assertEqual(poly_greater(0, (), ()), ())

    def test_at_most(self):
        for one, other, whether in (
                ((), (), True), ((), X, True), (X, (), False), (X, X, True), (X, ONE, False), (ONE, TEN, True),
                (TEN, ONE, False), (X, SQUARE, True), (SQUARE, X, False), ((((0,), 3), ((2,), 6)), SQUARE, False),
                ((((0,), 3), ((2,), 5)), SQUARE, True), ((((3,), 1),), SQUARE, False)):
            self.assertIs(is_at_most(1, one, other), whether)

    def test_put_in(self):
        x_and_one = (((0,), 1), ((1,), 1))
        self.assertEqual(put_in(1, (((2,), 1),), 1, (x_and_one,)), (((0,), 1), ((1,), 2), ((2,), 1)))
        self.assertEqual(put_in(2, (((1, 1), 2), ((2, 0), 1)), 1, (X, x_and_one)), (((1,), 2), ((2,), 3)))
        self.assertEqual(put_in(1, SQUARE, 1, ((),)), (((0,), 3),))
        self.assertEqual(put_in(1, X, 1, ((),)), ())
        self.assertEqual(put_in(1, (), 2, ((((1, 1), 1),),)), ())
        self.assertEqual(put_in(1, (((0,), 7), ((2,), 1)), 2, ((((0, 1), 1), ((1, 0), 1)),)),
                         (((0, 0), 7), ((0, 2), 1), ((1, 1), 2), ((2, 0), 1)))
        self.assertEqual(put_in(0, (((), 7),), 3, ()), (((0, 0, 0), 7),))
        self.assertEqual(put_in(0, (), 3, ()), ())
        self.assertEqual(put_in(3, (((1, 0, 2), 1),), 0, ((((), 2),), (((), 3),), (((), 5),))), (((), 50),))
        self.assertEqual(put_in(2, (((0, 1), 1), ((1, 0), 1)), 2, ((((0, 1), 1),), (((0, 1), 1),))), (((0, 1), 2),))

    def test_value(self):
        self.assertEqual(poly_value(2, (((0, 2), 3), ((1, 0), 1)), (4, 5)), 79)
        self.assertEqual(poly_value(1, (), (5,)), 0)
        self.assertEqual(poly_value(1, ONE, (0,)), 1)
        self.assertEqual(poly_value(1, SQUARE, (0,)), 3)
        self.assertEqual(poly_value(1, SQUARE, (10,)), 523)
        self.assertEqual(poly_value(0, (((), 7),), ()), 7)
        self.assertEqual(poly_value(0, (), ()), 0)
        self.assertEqual(poly_value(3, (((0, 0, 0), 1), ((0, 4, 1), 2), ((1, 0, 0), 3)), (0, 2, 5)), 161)
        self.assertEqual(poly_value(2, (((0, 3), 1),), (0, 2)), 8)
        self.assertEqual(poly_value(1, X, (10 ** 39,)), 10 ** 39)

    def test_work_and_values_agree(self):
        rng = random.Random(7)
        for _ in range(150):
            k, m = rng.randrange(4), rng.randrange(4)
            one, other = random_poly(rng, k), random_poly(rng, k)
            lengths = tuple(rng.randrange(5) for _ in range(k))
            values = poly_value(k, one, lengths), poly_value(k, other, lengths)
            self.assertEqual(values[0], sum(c * self.power(e, lengths) for e, c in one))
            for made, value in ((poly_sum(k, one, other), sum(values)),
                                (poly_product(k, one, other), values[0] * values[1])):
                self.assertIs(is_poly(k, made), True)
                self.assertEqual(poly_value(k, made, lengths), value)
            greater = poly_greater(k, one, other)
            self.assertEqual(dict(greater), {e: max(dict(one).get(e, 0), dict(other).get(e, 0))
                                             for e in {*dict(one), *dict(other)}})
            self.assertIs(is_poly(k, greater), True)
            self.assertTrue(is_at_most(k, one, greater) and is_at_most(k, other, greater))
            self.assertIs(is_at_most(k, greater, one), greater == one)
            small = random_poly(rng, k, 2, 6)
            parts = tuple(random_poly(rng, m, 2, 6) for _ in range(k))
            inner = tuple(rng.randrange(4) for _ in range(m))
            made = put_in(k, small, m, parts)
            self.assertIs(is_poly(m, made), True)
            put = tuple(poly_value(m, part, inner) for part in parts)
            self.assertEqual(poly_value(m, made, inner), poly_value(k, small, put))

    def power(self, exponents, lengths):
        product = 1
        for exponent, length in zip(exponents, lengths):
            product *= length ** exponent
        return product

    def test_at_the_limits(self):
        poly = tuple(sorted(((a, b, c), 10 ** 6) for a in (0, 2, 4) for b in (1, 4) for c in (0, 3, 4)))
        self.assertEqual(poly_value(3, poly, (3, 2, 1)), 10 ** 6 * 3 * (1 + 9 + 81) * (2 + 16))
        self.assertEqual(poly_value(3, poly_product(3, poly, poly), (3, 2, 1)), (10 ** 6 * 3 * 91 * 18) ** 2)
        small = tuple(sorted(((a, b, 2), 10 ** 6) for a in (0, 1, 2) for b in (1, 2)))
        made = put_in(3, small, 3, (small, small, small))
        self.assertEqual(poly_value(3, made, (1, 1, 1)), poly_value(3, small, (6 * 10 ** 6,) * 3))


class WrongArgumentsTest(unittest.TestCase):
    def raises(self, error, thing, call):
        with self.assertRaises(error) as caught:
            call()
        self.assertIs(caught.exception.thing, thing)

    def test_polys(self):
        for thing in WRONG:
            for work in (poly_sum, poly_product, poly_greater, is_at_most):
                self.raises(BadPoly, thing, lambda: work(1, thing, X))
                self.raises(BadPoly, thing, lambda: work(1, X, thing))
                for other in ("other", None):
                    self.raises(BadPoly, thing, lambda: work(1, thing, other))
            self.raises(BadPoly, thing, lambda: poly_value(1, thing, (1,)))
            self.raises(BadPoly, thing, lambda: poly_value(1, thing, None))
            self.raises(BadPoly, thing, lambda: put_in(1, thing, 1, (X,)))
            self.raises(BadPoly, thing, lambda: put_in(1, thing, 1, None))

    def test_polys_over_other_lengths(self):
        two = (((1, 1), 1),)
        for work in (poly_sum, poly_product, poly_greater, is_at_most):
            self.raises(BadPoly, two, lambda: work(1, X, two))
            self.raises(BadPoly, X, lambda: work(2, X, two))
        self.raises(BadPoly, two, lambda: poly_value(3, two, (1, 1, 1)))

    def test_lengths(self):
        for thing in ODD_VALUES + ((), (1, 1), (-1,), (True,), (False,), ("1",), (None,), [1], 1, ((1,),)):
            self.raises(BadInputs, thing, lambda: poly_value(1, X, thing))
            if thing != ():
                self.raises(BadInputs, thing, lambda: poly_value(0, (), thing))
        for thing in ((1,), (1, 2, 3), (1, True), [1, 2]):
            self.raises(BadInputs, thing, lambda: poly_value(2, (), thing))

    def test_parts(self):
        for thing in WRONG:
            for parts in ((thing,), (X, thing), [X], X, (X, X), (), None, "X", {}):
                self.raises(BadPoly, parts, lambda: put_in(1, X, 1, parts))
            parts = (X, thing)
            self.raises(BadPoly, parts, lambda: put_in(2, (((0, 1), 1),), 1, parts))
        parts = (X,)
        self.raises(BadPoly, parts, lambda: put_in(1, X, 2, parts))
        self.assertEqual(put_in(1, X, 1, parts), X)
