"""Which registers are needed behind the rows of units, and units in which one register stands for several."""

from quicktongue.codefaults import fits_taken
from quicktongue.errors import BadNumber, BadSharing, BadUnit
from quicktongue.kinds import is_among
from quicktongue.rowneeds import needs_behind_rows
from quicktongue.sharing import all_clashes, fits_sharing, least_pair, shared_code
from quicktongue.units import is_position


def needed_behind_row(unit, f, row):
    """The ascending tuple of the registers that are needed after a row."""
    require_taken(unit)
    if not is_position(f, unit[1]):
        raise BadNumber(f)
    rows = unit[1][f][4]
    if not is_position(row, rows) or rows[row][0] in ("zero", "one", "end"):
        raise BadNumber(row)
    return tuple(sorted(needs_behind_rows(rows)[row]))


def judge_sharing(unit, sharing):
    """Any certificate of a unit and a sharing: that registers are apart, or two that are not."""
    require_sharing(unit, sharing)
    clashes = all_clashes(unit, sharing)
    return clashes[0] if clashes else ("apart",)


def sharing_holds(unit, sharing, thing):
    """Whether any value is a certificate of a unit and a sharing."""
    require_sharing(unit, sharing)
    right = all_clashes(unit, sharing) or [("apart",)]
    return is_among(thing, right)


def shared(unit, sharing):
    """The unit with the registers that stand for the old ones."""
    require_sharing(unit, sharing)
    if all_clashes(unit, sharing):
        raise BadSharing(sharing)
    codes = tuple([shared_code(code, pair) for code, pair in zip(unit[1], sharing)])
    return (unit[0], codes, unit[2])


def sharing_of(unit):
    """A sharing by which registers are apart."""
    require_taken(unit)
    return tuple([least_pair(code) for code in unit[1]])


def require_taken(unit):
    """Raises BadUnit if any value is not a unit that is taken."""
    if not fits_taken(unit):
        raise BadUnit(unit)


def require_sharing(unit, sharing):
    """Raises BadUnit if any value is not a unit that is taken, then BadSharing if another is not a sharing of it."""
    require_taken(unit)
    if not fits_sharing(unit, sharing):
        raise BadSharing(sharing)
