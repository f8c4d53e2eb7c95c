"""Units: what they are, and what those that call their functions have to know."""

from quicktongue.kinds import is_whole
from quicktongue.rows import is_row
from quicktongue.trees import is_name


def fits_unit(thing):
    """Whether any value is a unit."""
    if not isinstance(thing, tuple) or len(thing) != 3 or not all(isinstance(part, tuple) for part in thing):
        return False
    needs, codes, shows = thing
    if not all(fits_need(need) for need in needs) or not all(fits_code(code) for code in codes):
        return False
    return all(fits_show(show, len(codes)) for show in shows) and are_named_unlike(needs) and are_named_unlike(shows)


def fits_need(thing):
    """Whether any value is what a unit tells of a function that it needs."""
    if not isinstance(thing, tuple) or len(thing) != 4 or not is_name(thing[0]):
        return False
    return all(is_whole(part) for part in thing[1:]) and thing[3] > 0


def fits_code(thing):
    """Whether any value is a code function."""
    if not isinstance(thing, tuple) or len(thing) != 5 or not all(is_whole(part) for part in thing[:4]):
        return False
    leads, softs, wide_leads, wide_softs, rows = thing
    if leads > wide_leads or softs > wide_softs or not isinstance(rows, tuple):
        return False
    return all(is_row(row) for row in rows)


def fits_show(thing, many):
    """Whether any value is what a unit with so many codes shows."""
    if not isinstance(thing, tuple) or len(thing) != 2 or not is_name(thing[0]):
        return False
    return is_whole(thing[1]) and thing[1] < many


def are_named_unlike(things):
    """Whether some tuples that begin with a name have unlike names."""
    names = [thing[0] for thing in things]
    return len(set(names)) == len(names)


def is_position(thing, things):
    """Whether any value is a position of a tuple."""
    return is_whole(thing) and thing < len(things)
