"""Numbers [5.1] and the shelf [5.2]."""

import random
import unittest
from itertools import product

from quicktongue.bounds import bounds
from quicktongue.errors import BadNumber, BadWord
from quicktongue.levels import is_program
from quicktongue.meaning import run, trace
from quicktongue.shelf import number_of, plain_word, shelf
from quicktongue.texts import read, written
from tests.slow import slow_places
from tests.support import ODD_VALUES

SHELF = shelf()


def words(least, most):
    for many in range(least, most + 1):
        for letters in product("01", repeat=many):
            yield "".join(letters)


def some_words(seed, many):
    rng = random.Random(seed)
    told = ["", "0", "1", "0" * 12, "1" * 12, "0" * 11 + "1", "1" + "0" * 11, "000101", "0" * 6 + "1" * 6]
    return told + ["".join(rng.choice("01") for _ in range(rng.randrange(13))) for _ in range(many)]


def binary(number):
    return bin(number)[2:] if number else ""


class NumbersTest(unittest.TestCase):
    def test_numbers_of_words(self):
        for word, number in (("", 0), ("0", 0), ("000", 0), ("1", 1), ("01", 1), ("10", 2), ("0110", 6), ("1" * 40, 2 ** 40 - 1)):
            self.assertEqual(number_of(word), number)
            self.assertIs(type(number_of(word)), int)
        for word in words(1, 8):
            self.assertEqual(number_of(word), int(word, 2))
        self.assertEqual(number_of("1" + "0" * 2999), 2 ** 2999)

    def test_plain_words(self):
        for number, word in ((0, ""), (1, "1"), (2, "10"), (3, "11"), (10, "1010"), (2 ** 100, "1" + "0" * 100)):
            self.assertEqual(plain_word(number), word)
        for number in range(600):
            self.assertEqual(plain_word(number), binary(number))
        self.assertEqual(number_of(plain_word(10 ** 39)), 10 ** 39)

    def test_there_and_back(self):
        for number in list(range(300)) + [10 ** k for k in range(40)]:
            self.assertEqual(number_of(plain_word(number)), number)
        for word in words(0, 8):
            self.assertEqual(plain_word(number_of(word)) == word, word[:1] != "0")
            self.assertEqual(plain_word(number_of(word)), word.lstrip("0"))

    def test_what_is_no_word(self):
        for thing in ODD_VALUES + ("2", "01a", "0 1", ("0",), ["1"], b"01", "0\n"):
            if not (isinstance(thing, str) and set(thing) <= {"0", "1"}):
                with self.assertRaises(BadWord) as caught:
                    number_of(thing)
                self.assertIs(caught.exception.thing, thing)

    def test_what_is_no_number(self):
        for thing in ODD_VALUES + (-5, -10 ** 39, "3", (3,), 1.0):
            if type(thing) is not int or thing < 0:
                with self.assertRaises(BadNumber) as caught:
                    plain_word(thing)
                self.assertIs(caught.exception.thing, thing)


class ShelfTest(unittest.TestCase):
    def gives(self, f, leads, softs, outcome):
        """The function has this outcome, within the limits of runs."""
        outcomes, steps = run(SHELF, f, leads, softs)
        self.assertEqual(outcomes, (outcome,), (f, leads, softs))
        self.assertLessEqual(steps, 20000)

    def test_it_is_a_program_with_these_functions(self):
        self.assertIs(is_program(SHELF), True)
        self.assertEqual(shelf(), SHELF)
        self.assertEqual(read(written(SHELF)), SHELF)
        told = {"turned": (1, 0), "joined": (1, 1), "marks": (1, 1), "times": (2, 0), "sorted": (1, 0), "ones": (1, 0),
                "plain": (1, 0), "next": (1, 0), "plus": (2, 0), "product": (2, 0), "less": (2, 0), "count": (1, 0)}
        found = {function[1]: function for function in SHELF}
        for f, (leads, softs) in told.items():
            self.assertEqual([len(part) for part in found[f][2:4]], [leads, softs], f)
            self.assertEqual(len(found[f][6]), 1)

    def test_it_is_within_the_limits_of_programs(self):
        self.assertLessEqual(len(SHELF), 14)
        places = slow_places(SHELF)
        self.assertLessEqual(len(places), 600)
        lines = written(SHELF).split("\n")
        self.assertLessEqual(len(lines), 300)
        self.assertLessEqual(max(map(len, lines)), 200)
        for path in places:
            around = [other for other in places if path[:len(other)] == other]
            self.assertLessEqual(len(around), 10)

    def test_its_polynomials_are_within_the_limits(self):
        for pair in bounds(SHELF):
            for poly in pair:
                self.assertLessEqual(len(poly), 60)
                for exponents, coefficient in poly:
                    self.assertLessEqual(max(exponents), 12)
                    self.assertLessEqual(len(str(coefficient)), 40)

    def test_words_in_its_runs_are_within_the_limits(self):
        for function in SHELF:
            inputs = ("1" * 12,) * len(function[2]), ("0" * 12,) * len(function[3])
            if function[1] == "product":
                inputs = ("1111", "1111"), ()
            held = [word for _, softs in trace(SHELF, function[1], *inputs) for word in softs]
            self.assertLessEqual(max(map(len, held), default=0), 2000)

    def test_functions_of_one_word(self):
        for x in list(words(0, 4)) + some_words(1, 25):
            number = number_of(x)
            self.gives("turned", (x,), (), x[::-1])
            self.gives("sorted", (x,), (), "0" * x.count("0") + "1" * x.count("1"))
            self.gives("ones", (x,), (), "1" * x.count("1"))
            self.gives("plain", (x,), (), binary(number))
            self.gives("next", (x,), (), binary(number + 1))
            self.gives("count", (x,), (), binary(len(x)))

    def test_the_length_of_each_word(self):
        for many in range(13):
            self.gives("count", ("0" * many,), (), binary(many))
            self.gives("count", ("1" * many,), (), binary(many))

    def test_functions_of_two_words(self):
        pairs = list(product(words(0, 2), repeat=2)) + list(zip(some_words(2, 30), some_words(3, 30)[::-1]))
        for x, y in pairs:
            self.gives("joined", (x,), (y,), y + x)
            self.gives("marks", (x,), (y,), y + "1" * len(x))
            self.gives("times", (x, y), (), "1" * (len(x) * len(y)))
            self.gives("plus", (x, y), (), binary(number_of(x) + number_of(y)))
            self.gives("less", (x, y), (), "1" if number_of(x) < number_of(y) else "")

    def test_equal_and_nearly_equal_words(self):
        for x in ("", "0", "1", "0110", "1" * 12, "0" * 12, "010101010101"):
            for y in (x, "0" + x[:11], x[:-1], x[1:], x[:11] + "1"):
                self.gives("less", (x, y), (), "1" if number_of(x) < number_of(y) else "")
                self.gives("less", (y, x), (), "1" if number_of(y) < number_of(x) else "")
                self.gives("plus", (x, y), (), binary(number_of(x) + number_of(y)))

    def test_products(self):
        for x, y in product(words(0, 4), repeat=2):
            if (number_of(x) + 3 * number_of(y) + len(x)) % 3 == 0 or x == y or "1111" in (x, y) or "" in (x, y):
                self.gives("product", (x, y), (), binary(number_of(x) * number_of(y)))

    def test_longer_words_than_within_the_limits(self):
        self.assertEqual(run(SHELF, "product", ("110101", "0100111"), ())[0], (binary(0b110101 * 0b0100111),))
        self.assertEqual(run(SHELF, "plus", ("1" * 20, "1"), ())[0], ("1" + "0" * 20,))
        self.assertEqual(run(SHELF, "next", ("1" * 30,), ())[0], ("1" + "0" * 30,))
