"""Small questions about any values, where True is not 1 and a list is not a tuple."""


def is_whole(thing):
    """Whether any value is an integer from 0 on."""
    return type(thing) is int and thing >= 0


def is_path(thing):
    """Whether any value is a path, that is, a tuple of positions."""
    return isinstance(thing, tuple) and all(is_whole(part) for part in thing)


def is_among(thing, values):
    """Whether any value is one of some values of tuples, strings and integers."""
    return any(alike(value, thing) for value in values)


def alike(one, other):
    """Whether two values of tuples, strings and integers are equal part by part, each of the same kind."""
    # Python's == alone would take True for 1.
    if isinstance(one, tuple) and isinstance(other, tuple):
        return len(one) == len(other) and all([alike(part, match) for part, match in zip(one, other)])
    return type(one) is type(other) and one == other
