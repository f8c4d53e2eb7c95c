"""Bytes that are no bytes of a unit, and the number of the first ones that could be [10.1]."""

import random
import unittest

from quicktongue.bytework import bytes_of, unit_of
from quicktongue.errors import BadBytes
from tests.loosemaker import loose_unit
from tests.slowbytes import slow_begun, slow_bytes_at
from tests.support import KEPT_WORDS
from tests.unitmaker import UnitMaker, code_of

LETTERS = "abcdefghijklmnopqrstuvwxyz"
SIGNS = LETTERS + "0123456789_"
ONE = (("n", 1, 0, 2),), (code_of(1, 2, 4, 3, "word s2 011; call 0 (l0) () (s0 s1); put l1 l0 1; give (s0 l0)"),), (("f", 0), ("g", 0))


def told_at(code):
    """The number that BadBytes tells, None if there is none."""
    try:
        unit_of(code)
    except BadBytes as error:
        return error.at
    return None


def named(name):
    return (len(name),) + tuple(map(ord, name))


def needing(names, *more):
    """The first bytes of a unit that has these needs, and more after them; the number of needs is one more."""
    code = (81, 84, len(names) + 1)
    for name in names:
        code += named(name) + (0, 0, 1)
    return code + more


class BadBytesTest(unittest.TestCase):
    def bad(self, code, at):
        self.assertEqual(told_at(tuple(code)), at, code)
        self.assertEqual(slow_bytes_at(tuple(code)), at, code)

    def test_the_first_bytes(self):
        self.bad((), 0)
        self.bad((81,), 1)
        self.bad((81, 84), 2)
        self.bad((80,), 0)
        self.bad((84, 81, 0, 0, 0), 0)
        self.bad((81, 85, 0, 0, 0), 1)
        self.bad((81, 84, 0), 3)
        self.bad((81, 84, 0, 0), 4)
        self.bad((0,), 0)

    def test_bytes_behind_the_end(self):
        self.bad((81, 84, 0, 0, 0, 0), 5)
        self.bad((81, 84, 0, 0, 0, 0, 255), 5)
        code = bytes_of(ONE)
        for byte in range(256):
            self.bad(code + (byte,), len(code))

    def test_shows_without_codes(self):
        for many in (1, 2, 255):
            self.bad((81, 84, 0, 0, many), 4)
            self.bad((81, 84, 0, 0, many, 1, 97, 0), 4)

    def test_positions_of_no_code(self):
        code = (81, 84, 0, 2, 0, 0, 0, 0, 11, 1, 0, 0, 0, 0, 0, 11, 1, 0, 1, 1, 97)
        self.assertEqual(unit_of(code + (1,))[2], (("a", 1),))
        for position in (2, 3, 128, 255):
            self.bad(code + (position,), len(code))
        self.bad(code, len(code))

    def test_results_of_needs(self):
        self.bad((81, 84, 1, 1, 97, 0, 0, 0), 7)
        self.bad((81, 84, 1, 1, 97, 255, 255, 0, 0, 0), 7)
        self.bad((81, 84, 1, 1, 97, 0, 0, 1), 8)

    def test_wide_numbers(self):
        self.bad((81, 84, 0, 1, 3, 0, 2), 6)
        self.bad((81, 84, 0, 1, 3, 0, 0, 0, 11, 1, 0, 0), 6)
        self.bad((81, 84, 0, 1, 0, 3, 0, 2), 7)
        self.bad((81, 84, 0, 1, 255, 255, 255, 254), 7)
        self.bad((81, 84, 0, 1, 255, 255, 255, 255), 8)

    def test_kinds(self):
        for kind in (0,) + tuple(range(12, 256)):
            self.bad((81, 84, 0, 1, 0, 0, 0, 0, kind), 8)
        for kind in range(1, 12):
            self.bad((81, 84, 0, 1, 0, 0, 0, 0, kind), 9)

    def test_letters(self):
        for byte in range(2, 256):
            self.bad((81, 84, 0, 1, 0, 0, 0, 0, 3, 0, 0, byte), 11)
            self.bad((81, 84, 0, 1, 0, 0, 0, 0, 1, 0, 2, 1, byte), 12)
        self.bad((81, 84, 0, 1, 0, 0, 0, 0, 1, 0, 255) + (1,) * 255, 266)

    def test_a_give_without_registers(self):
        self.bad((81, 84, 0, 1, 0, 0, 0, 0, 11, 0), 9)
        self.bad((81, 84, 0, 1, 0, 0, 0, 0, 11, 0, 0), 9)
        self.bad((81, 84, 0, 1, 0, 0, 0, 0, 11, 255) + (7,) * 254, 264)

    def test_rows_end_with_the_give(self):
        code = (81, 84, 0, 1, 0, 0, 0, 0, 7, 11, 1, 0)
        self.assertEqual(unit_of(code + (0,))[1][0][4], (("zero",), ("give", (("l", 0),))))
        # Behind the "give" there is the number of shows, which is no kind of row, and then a number of signs.
        self.bad(code + (7, 11, 1, 0, 0), 14)

    def test_numbers_of_signs(self):
        for many in (0,) + tuple(range(21, 256)):
            self.bad((81, 84, 1, many), 3)
            self.bad((81, 84, 0, 1, 0, 0, 0, 0, 11, 1, 0, 1, many), 12)
        for many in range(1, 21):
            self.bad((81, 84, 1, many), 4)

    def test_signs(self):
        for byte in range(256):
            first = chr(byte) in LETTERS
            self.bad((81, 84, 1, 3, byte), 5 if first else 4)
            self.bad((81, 84, 1, 3, 97, byte), 6 if chr(byte) in SIGNS else 5)
            self.bad((81, 84, 1, 20) + (97,) * 19 + (byte,), 24 if chr(byte) in SIGNS else 23)

    def test_the_twelve_words(self):
        for word in KEPT_WORDS:
            code = (81, 84, 1) + named(word)
            self.bad(code, len(code) - 1)
            self.bad(code + (0, 0, 1, 0, 0), len(code) - 1)
            longer = (81, 84, 1) + named(word + "s")
            self.bad(longer, len(longer))

    def test_names_twice(self):
        for name in ("a", "ab", "set1", "a" * 20):
            code = needing([name], *named(name))
            self.bad(code, len(code) - 1)
            shows = (81, 84, 0, 1, 0, 0, 0, 0, 11, 1, 0, 2) + named(name) + (0,) + named(name)
            self.bad(shows, len(shows) - 1)
        # What is needed can be shown.
        code = (81, 84, 1) + named("a") + (0, 0, 1, 1, 0, 0, 0, 0, 11, 1, 0, 1) + named("a") + (0,)
        self.assertEqual(unit_of(code)[2], (("a", 0),))

    def test_all_names_of_one_sign_are_taken(self):
        code = needing(LETTERS)
        self.bad(code + (1,), len(code))
        self.bad(code + (1, 97), len(code))
        self.bad(code + (2,), len(code) + 1)
        for left in LETTERS:
            code = needing(LETTERS.replace(left, ""))
            self.bad(code + (1,), len(code) + 1)
            for sign in ("a", "m", "z"):
                self.bad(code + (1, ord(sign)), len(code) + (2 if sign == left else 1))
        shows = (81, 84, 0, 1, 0, 0, 0, 0, 11, 1, 0, 27)
        for name in LETTERS:
            shows += named(name) + (0,)
        self.bad(shows + (1,), len(shows))
        self.bad(shows + (2,), len(shows) + 1)

    def test_all_names_with_a_first_sign_are_taken(self):
        names = ["b" + sign for sign in SIGNS]
        code = needing(names)
        self.bad(code + (2, 98), len(code) + 1)
        self.bad(code + (2, 98, 97), len(code) + 1)
        self.bad(code + (2, 97), len(code) + 2)
        self.bad(code + (3, 98), len(code) + 2)
        code = needing(names[:20] + names[21:])
        self.bad(code + (2, 98), len(code) + 2)
        self.bad(code + (2, 98, 97), len(code) + 2)
        self.bad(code + (2, 98, ord(SIGNS[20])), len(code) + 3)

    def test_all_names_but_a_kept_word_are_taken(self):
        names = ["a" + sign for sign in SIGNS if sign != "s"]
        code = needing(names)
        self.bad(code + (2, 97), len(code) + 1)
        self.bad(code + (2, 97, 115), len(code) + 1)
        code = needing(names[1:])
        self.bad(code + (2, 97), len(code) + 2)
        self.bad(code + (2, 97, 115), len(code) + 2)
        names = ["se" + sign for sign in SIGNS if sign != "t"]
        code = needing(names)
        self.bad(code + (3, 115, 101), len(code) + 2)
        self.bad(code + (3, 115), len(code) + 2)

    def test_every_cut(self):
        rng = random.Random(1)
        for unit in [ONE] + [loose_unit(rng) for _ in range(60)]:
            code = bytes_of(unit)[:120]
            for many in range(len(code)):
                self.bad(code[:many], many)

    def test_every_byte_exchanged(self):
        code = bytes_of(ONE)
        others = tuple(range(15)) + (20, 21, 47, 48, 57, 58, 81, 84, 94, 95, 96, 97, 102, 103, 122, 123, 127, 128, 129, 255)
        for at in range(len(code)):
            for byte in others:
                self.same(code[:at] + (byte,) + code[at + 1:])

    def same(self, code):
        self.assertEqual(told_at(code), slow_bytes_at(code), code)
        if told_at(code) is None:
            self.assertEqual(unit_of(code), slow_begun(code))

    def test_bent_bytes(self):
        rng = random.Random(2)
        wrong = 0
        for seed in range(1000):
            code = bytes_of(loose_unit(rng) if seed % 2 else UnitMaker(seed, False).unit())
            if len(code) > 150:
                continue
            for _ in range(rng.randrange(1, 3)):
                at = rng.randrange(len(code) + 1)
                other = rng.randrange(len(code) + 1)
                byte = rng.choice((0, 1, 2, 11, 12, 97, 128, 255, rng.randrange(256)))
                code = rng.choice((
                    code[:at] + (byte,) + code[at + 1:], code[:at] + (byte,) + code[at:], code[:at] + code[at + 1:],
                    code[:min(at, other)] + code[max(at, other):], code[:at] + code[min(at, other):]))
            self.same(code)
            wrong += told_at(code) is not None
        self.assertGreater(wrong, 450)

    def test_drawn_bytes(self):
        rng = random.Random(3)
        for _ in range(1500):
            code = [81, 84, 0, 1, 0, 0, 0, 0]
            while len(code) < 60 and told_at(tuple(code)) == len(code):
                code.append(rng.choice((0, 1, 2, 3, 9, 10, 11, 97, 128, rng.randrange(256))))
            self.same(tuple(code))

    def test_three_thousand_bytes(self):
        rng = random.Random(4)
        for _ in range(5):
            self.assertIsNotNone(told_at(tuple(rng.randrange(256) for _ in range(3000))))
        code = (81, 84, 0, 1, 1, 0, 3, 0) + (10, 0, 1, 2) * 700
        self.assertEqual(told_at(code), len(code))
        code += (9,) * 100 + (11, 1, 0, 0)
        self.assertEqual(len(unit_of(code)[1][0][4]), 801)
