"""Sets as ascending tuples without duplicates."""


def ascending(things):
    """The members of a list or tuple."""
    return tuple(sorted(set(things)))


def united(one, other):
    """The members of one or the other."""
    return ascending(one + other)


def without(one, other):
    """The members of one that are not in the other."""
    return tuple([thing for thing in one if thing not in other])
