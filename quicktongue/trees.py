"""What is a word, a name, a term, a command or a program tree.

Raw programs have the same shape as program trees, but other calls and other
functions. So the checks below are told the kind of the calls: "call" or "ask".
"""

KEPT_WORDS = ("fun", "own", "let", "set", "when", "none", "zero", "one", "each", "as", "give", "cut")
LETTERS = "abcdefghijklmnopqrstuvwxyz"
SIGNS = "abcdefghijklmnopqrstuvwxyz0123456789_"
LONGEST_NAME = 20


def is_word(thing):
    """Whether any value is a word."""
    return isinstance(thing, str) and thing.strip("01") == ""


def are_words(thing, many):
    """Whether any value is a tuple of so many words."""
    return isinstance(thing, tuple) and len(thing) == many and all(is_word(part) for part in thing)


def is_name(thing):
    """Whether any value is a name."""
    if not isinstance(thing, str) or not 1 <= len(thing) <= LONGEST_NAME:
        return False
    return thing[0] in LETTERS and all(sign in SIGNS for sign in thing) and thing not in KEPT_WORDS


def is_term(thing):
    """Whether any value is a term."""
    return fits_term(thing, "call")


def is_command(thing):
    """Whether any value is a command."""
    return fits_command(thing, "call")


def is_tree(thing):
    """Whether any value is a program tree."""
    return isinstance(thing, tuple) and all(fits_function(part, "fun", "call") for part in thing)


def are_names(thing):
    """Whether any value is a tuple of names."""
    return isinstance(thing, tuple) and all(is_name(part) for part in thing)


def are_terms(thing, call):
    """Whether any value is a tuple of terms with such calls."""
    return isinstance(thing, tuple) and all(fits_term(part, call) for part in thing)


def fits_term(thing, call):
    """Whether any value is a term with such calls."""
    if not isinstance(thing, tuple) or len(thing) < 2:
        return False
    kind = thing[0]
    if kind == "name":
        return len(thing) == 2 and is_name(thing[1])
    if kind == "word":
        return len(thing) == 2 and is_word(thing[1])
    if kind == "put":
        return len(thing) == 3 and thing[2] in ("0", "1") and fits_term(thing[1], call)
    if kind == "cut":
        return len(thing) == 2 and fits_term(thing[1], call)
    return kind == call and fits_call(thing, call)


def fits_call(thing, call):
    """Whether a tuple with the kind of a call has the other parts of one."""
    many = 4 if call == "call" else 3
    return len(thing) == many and is_name(thing[1]) and all(are_terms(part, call) for part in thing[2:])


def fits_command(thing, call):
    """Whether any value is a command with such calls."""
    if not isinstance(thing, tuple) or len(thing) < 3:
        return False
    kind = thing[0]
    if kind == "let":
        return len(thing) == 3 and is_name(thing[1]) and fits_term(thing[2], call)
    if kind == "set":
        return len(thing) == 3 and are_names(thing[1]) and len(thing[1]) > 0 and fits_term(thing[2], call)
    if kind == "when":
        return len(thing) == 5 and fits_term(thing[1], call) and all(fits_block(part, call) for part in thing[2:])
    return kind == "each" and len(thing) == 5 and are_names(thing[1:4]) and fits_block(thing[4], call)


def fits_block(thing, call):
    """Whether any value is a block with such calls."""
    return isinstance(thing, tuple) and all(fits_command(part, call) for part in thing)


def fits_function(thing, kind, call):
    """Whether any value is a function of the kind "fun", or of the kind "raw", with such calls."""
    many = 7 if kind == "fun" else 6
    if not isinstance(thing, tuple) or len(thing) != many or thing[0] != kind:
        return False
    names, block, gives = thing[2:-2], thing[-2], thing[-1]
    if not is_name(thing[1]) or not all(are_names(part) for part in names):
        return False
    return fits_block(block, call) and are_terms(gives, call) and len(gives) > 0
