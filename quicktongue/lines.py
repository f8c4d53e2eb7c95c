"""Reading a line of a text on its own, without regard to the lines around it.

What is read of a line is a tuple that begins with the line's first part. It is
made as the function or the command that the line begins, without its blocks.
"""

from quicktongue.parts import Unreadable, is_head, parts_of
from quicktongue.termparts import term_of, terms_of
from quicktongue.trees import is_name


def names_of(parts):
    """The tuple of the names that parts of a line are, with commas between them; raises Unreadable."""
    names = tuple(parts[0::2])
    commas = parts[1::2]
    if not all(is_name(part) for part in names) or not all(part == "," for part in commas):
        raise Unreadable("these are no names")
    if names and len(names) != len(commas) + 1:
        raise Unreadable("a name is missing")
    return names


def some_names_of(parts):
    """The names that parts of a line are, at least one; raises Unreadable."""
    if not parts:
        raise Unreadable("a name is missing")
    return names_of(parts)


def split_at(parts, sign):
    """The pair of the parts before a sign and of those behind it; raises Unreadable."""
    if sign not in parts:
        raise Unreadable("a sign is missing")
    at = parts.index(sign)
    return parts[:at], parts[at + 1:]


def read_fun(parts):
    """Reads a first line of a function."""
    if len(parts) < 2 or not is_head(parts[1]):
        raise Unreadable("the function has no name")
    leads, others = split_at(parts[2:], ";")
    softs, owns = split_at(others, ")")
    if owns and owns[0] != "own":
        raise Unreadable("only own names can follow")
    own_names = some_names_of(owns[1:]) if owns else ()
    return ("fun", parts[1][:-1], names_of(leads), names_of(softs), own_names)


def read_let(parts):
    """Reads a line that is a let."""
    names, term = split_at(parts[1:], "=")
    if len(names) != 1:
        raise Unreadable("a let has one name")
    return ("let", some_names_of(names)[0], term_of(term))


def read_set(parts):
    """Reads a line that is a set."""
    names, term = split_at(parts[1:], "=")
    return ("set", some_names_of(names), term_of(term))


def read_when(parts):
    """Reads the line that heads the branches of a when."""
    return ("when", term_of(parts[1:]))


def read_branch(parts):
    """Reads the line that heads a block of a when."""
    if len(parts) > 1:
        raise Unreadable("nothing follows a branch's word")
    return (parts[0],)


def read_each(parts):
    """Reads the line that heads the block of an each."""
    if len(parts) != 6 or parts[2] != "as":
        raise Unreadable("an each has a leader and two names")
    names = names_of(parts[3:])
    return ("each", some_names_of(parts[1:2])[0], names[0], names[1])


def read_give(parts):
    """Reads the last line of a function."""
    return ("give", terms_of(parts[1:]))


READERS = {
    "fun": read_fun,
    "let": read_let,
    "set": read_set,
    "when": read_when,
    "none": read_branch,
    "zero": read_branch,
    "one": read_branch,
    "each": read_each,
    "give": read_give,
}


def line_of(text):
    """What is read of the text that counts of a line, without its indent; raises Unreadable."""
    parts = parts_of(text)
    if parts[0] not in READERS:
        raise Unreadable("no line begins so")
    reader = READERS[parts[0]]
    return reader(parts)
