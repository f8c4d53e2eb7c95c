"""Linking units to one that needs nothing."""

from quicktongue.codefaults import fits_taken
from quicktongue.errors import BadUnits
from quicktongue.kinds import is_among


def judge_link(units):
    """Any certificate of a tuple of units: the linked unit, or why they cannot be linked."""
    return right_certificates(units)[0]


def link_holds(units, thing):
    """Whether any value is a certificate of a tuple of units."""
    return is_among(thing, right_certificates(units))


def right_certificates(units):
    """The list of all certificates of a tuple of units; raises BadUnits if any value is not such a tuple."""
    if not isinstance(units, tuple) or not all(fits_taken(unit) for unit in units):
        raise BadUnits(units)
    return link_faults(units) or [("linked", linked_unit(units))]


def link_faults(units):
    """The list of all certificates that units cannot be linked."""
    faults = []
    # For each name the numbers of leads, softs and results of all functions that are shown by it.
    forms = {}
    for u, unit in enumerate(units):
        for k, need in enumerate(unit[0]):
            if need[0] not in forms:
                faults.append(("lacks", u, k))
            elif any(form != need[1:] for form in forms[need[0]]):
                faults.append(("unlike", u, k))
        for name, position in unit[2]:
            if name in forms:
                faults.append(("twice", u, name))
            forms.setdefault(name, []).append(form_of(unit[1][position]))
    return faults


def form_of(code):
    """The numbers of the leads, softs and results of a code function."""
    return (code[0], code[1], len(code[4][-1][1]))


def linked_unit(units):
    """The linked unit of units that can be linked."""
    codes = []
    shows = []
    for needs, unit_codes, unit_shows in units:
        first = len(codes)
        positions = dict(shows)
        numbers = [positions[need[0]] for need in needs] + [first + at for at in range(len(unit_codes))]
        codes.extend([with_numbers(code, numbers) for code in unit_codes])
        shows.extend([(name, first + position) for name, position in unit_shows])
    return ((), tuple(codes), tuple(shows))


def with_numbers(code, numbers):
    """A code function that calls other numbers: in place of each one that which a list has at its position."""
    rows = [row[:1] + (numbers[row[1]],) + row[2:] if row[0] == "call" else row for row in code[4]]
    return code[:4] + (tuple(rows),)
