"""The loader: it takes bytes made by anybody, if the unit that they are is taken."""

from quicktongue.bytework import unit_of
from quicktongue.code import is_taken
from quicktongue.codebounds import code_bounds
from quicktongue.errors import BadUnit


def load(code):
    """The unit of bytes; raises BadBytes, then BadUnit if the unit is not taken."""
    unit = unit_of(code)
    if not is_taken(unit):
        raise BadUnit(unit)
    return unit


def load_bounds(code):
    """The polynomials that bound the codes of the unit of bytes; raises BadUnit also if it is not whole."""
    return code_bounds(load(code))
