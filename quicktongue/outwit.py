"""Texts as words, and programs on which functions that are to run all programs err."""

from quicktongue.errors import BadName, BadProgram, BadText, BadWord
from quicktongue.levels import is_program
from quicktongue.meaning import run
from quicktongue.shelf import plain_word
from quicktongue.texts import written
from quicktongue.trees import is_word

TEXT_SIGNS = "\n !\"#$&'()*+,-./0123456789:;<=>?@ABCDEFGHIJKLMNOPQRSTUVWXYZ[\\]^_`abcdefghijklmnopqrstuvwxyz{|}~"
LETTERS_OF_SIGN = 7


def word_of_text(text):
    """The word of a string of text signs; raises BadText with 0 for any other value."""
    if not isinstance(text, str) or not all(sign in TEXT_SIGNS for sign in text):
        raise BadText(0)
    words = sign_words()
    return "".join([words[sign] for sign in text])


def text_of_word(word):
    """The string with a word, None if there is none."""
    if not is_word(word):
        raise BadWord(word)
    words = sign_words()
    signs = {words[sign]: sign for sign in TEXT_SIGNS}
    pieces = [word[at:at + LETTERS_OF_SIGN] for at in range(0, len(word), LETTERS_OF_SIGN)]
    if not all(piece in signs for piece in pieces):
        return None
    return "".join([signs[piece] for piece in pieces])


def outwit(program, f):
    """The pair of a program and an input on which a function f errs."""
    require_runner(program, f)
    term = ("put", ("call", f, (("name", "x"), ("name", "x")), ()), "1")
    name = free_name([function[1] for function in program])
    other = program + (("fun", name, ("x",), (), (), (), (term,)),)
    return other, word_of_text(written(other))


def does_err(program, f, other, word):
    """Whether a function f errs on another program and an input."""
    require_runner(program, f)
    if not is_program(other) or not other or not has_form(other[-1], 1):
        raise BadProgram(other)
    if not is_word(word):
        raise BadWord(word)
    told = run(program, f, (word_of_text(written(other)), word), ())[0]
    return told != run(other, other[-1][1], (word,), ())[0]


def sign_words():
    """The dict of the word of each text sign."""
    return {sign: plain_word(ord(sign)).zfill(LETTERS_OF_SIGN) for sign in TEXT_SIGNS}


def require_runner(program, f):
    """Raises BadProgram, then BadName if f is not the name of a function with two leads, no softs and one give."""
    if not is_program(program):
        raise BadProgram(program)
    if not any(function[1] == f and has_form(function, 2) for function in program):
        raise BadName(f)


def has_form(function, many):
    """Whether a function has so many leads, no softs and one give."""
    return len(function[2]) == many and len(function[3]) == 0 and len(function[6]) == 1


def free_name(taken):
    """A name that is none of those that are taken."""
    name = "n"
    number = 0
    while name in taken:
        name = "n" + str(number)
        number += 1
    return name
