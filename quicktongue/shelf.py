"""A shelf of functions that are often needed, as a program, and the numbers that words stand for."""

from quicktongue.errors import BadNumber, BadWord
from quicktongue.kinds import is_whole
from quicktongue.texts import read
from quicktongue.trees import is_word

WORDS = """
fun turned(x;) own s
  each x as r, l
    when l
      zero
        set s = s + 0
      one
        set s = s + 1
  give s

fun joined(x; a)
  let y = turned(x;)        # an each begins with the last letter
  each y as r, l
    when l
      zero
        set a = a + 0
      one
        set a = a + 1
  give a

fun marks(x; a)
  each x as r, l
    set a = a + 1
  give a

fun times(x, y;) own s
  each x as r, l
    set s = marks(y; s)
  give s

fun sorted(x;) own s
  each x as r, l
    when l
      zero
        set s = s + 0
  each x as q, m
    when m
      one
        set s = s + 1
  give s

fun ones(x;) own s
  each x as r, l
    when l
      one
        set s = s + 1
  give s
"""

NUMBERS = """
fun plain(x;) own s
  let y = turned(x;)
  each y as r, l
    when l
      zero
        when s              # a letter 0 counts only behind a letter 1
          zero
            set s = s + 0
          one
            set s = s + 0
      one
        set s = s + 1
  give s

fun next(x;) own s, t
  set t = "1"
  let y = plain(x;)
  let z = turned(y;)
  each z as r, l            # s is the number of the letters up to here, t is 1 more
    when l
      zero
        set t = s + 1
        set s = s + 0
      one
        set t = t + 0
        set s = s + 1
  give t

fun added(n; a, b) own s, t, c, d, e
  set t = "1"
  each n as r, l            # s is the sum of the letters that have as many behind them as r, or more; t is 1 more
    set c = a
    set d = b
    each r as q, m
      set c = cut c
      set d = cut d
    set e = ""              # empty, 0 or 1 for none, one or two letters 1 at this place
    when c
      one
        set e = "0"
    when d
      one
        when e
          none
            set e = "0"
          zero
            set e = "1"
    when e
      none
        set t = s + 1
        when s
          zero
            set s = s + 0
          one
            set s = s + 0
      zero
        set s = s + 1
        set t = t + 0
      one
        set s = t + 0
        set t = t + 1
  give s

fun plus(x, y;)
  let n = joined(x; y)
  give added(n; x, y)

fun product(x, y;) own s
  let n = joined(x; y)
  let z = turned(x;)
  each z as r, l
    when l
      zero
        set s = added(n; s + 0, "")
      one
        set s = added(n; s + 0, y)
  give s

fun less(x, y;) own a, b, s
  let n = joined(x; y)
  set a = x
  set b = y
  each n as r, l            # of the places where the numbers differ the last one to be seen tells
    when a
      one
        when b
          none
            set s = ""
          zero
            set s = ""
    when b
      one
        when a
          none
            set s = "1"
          zero
            set s = "1"
    set a = cut a
    set b = cut b
  give s

fun count(x;) own s
  each x as r, l
    set s = added(x; s, "1")
  give s
"""


def shelf():
    """The shelf: a program whose functions work on words, and on the numbers of words."""
    return read(WORDS + NUMBERS)


def number_of(word):
    """The number that a word is in binary figures; 0 for the empty word."""
    if not is_word(word):
        raise BadWord(word)
    number = 0
    for letter in word:
        number = 2 * number + int(letter)
    return number


def plain_word(number):
    """The word of an integer from 0 on that has no letter 0 ahead."""
    if not is_whole(number):
        raise BadNumber(number)
    word = ""
    left = number
    while left > 0:
        word = str(left & 1) + word
        left = left >> 1
    return word
