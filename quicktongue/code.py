"""Units of code, their faults, and the leading registers that are set ahead of their rows."""

from quicktongue.ahead import sets_ahead
from quicktongue.codefaults import fault_of_unit, fits_taken
from quicktongue.errors import BadNumber, BadUnit
from quicktongue.units import fits_unit, is_position


def is_unit(thing):
    """Whether any value is a unit."""
    return fits_unit(thing)


def first_fault(unit):
    """The first fault of a unit, None if there is none."""
    if not fits_unit(unit):
        raise BadUnit(unit)
    return fault_of_unit(unit)


def is_taken(thing):
    """Whether any value is a unit that is taken, that is, one without faults."""
    return fits_taken(thing)


def set_ahead(unit, f, row):
    """The ascending tuple of the leading registers that are set ahead of a row."""
    if not fits_taken(unit):
        raise BadUnit(unit)
    if not is_position(f, unit[1]):
        raise BadNumber(f)
    leads, rows = unit[1][f][0], unit[1][f][4]
    if not is_position(row, rows):
        raise BadNumber(row)
    aheads = sets_ahead(rows, [("l", at) for at in range(leads)])
    return tuple(sorted(aheads[row]))
