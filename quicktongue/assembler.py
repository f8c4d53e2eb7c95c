"""The text of a unit, and the unit with a text."""

from quicktongue.errors import BadText, BadUnit
from quicktongue.parts import Unreadable
from quicktongue.unitlines import UnitReader, line_of_parts
from quicktongue.units import fits_unit


def text_of_unit(unit):
    """The text of a unit."""
    if not fits_unit(unit):
        raise BadUnit(unit)
    needs, codes, shows = unit
    lines = [line_of_parts("needs", need) for need in needs]
    for code in codes:
        lines.append(line_of_parts("code", code[:4]))
        lines.extend([line_of_parts(row[0], row[1:]) for row in code[4]])
    lines.extend([line_of_parts("show", show) for show in shows])
    return "\n".join(lines)


def unit_of_text(text):
    """The unit with a text; raises BadText with the number of the first line that cannot stand."""
    if not isinstance(text, str):
        raise BadText(0)
    reader = UnitReader()
    # The unit without anything has no line, so no line is empty.
    lines = text.split("\n") if text else []
    for number, line in enumerate(lines, start=1):
        try:
            reader.read_line(line)
        except Unreadable:
            raise BadText(number) from None
    return reader.read_unit()
