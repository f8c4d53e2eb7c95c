"""The rows of code: what they are, and which registers they read, write and name."""

from quicktongue.kinds import is_whole
from quicktongue.trees import is_word

# For each kind of row the kinds of its parts, in their order; "some" is a tuple of one or more registers.
ROW_PARTS = {
    "word": ("reg", "word"),
    "move": ("reg", "reg"),
    "put": ("reg", "reg", "letter"),
    "cut": ("reg", "reg"),
    "call": ("number", "regs", "regs", "regs"),
    "when": ("reg",),
    "zero": (),
    "one": (),
    "end": (),
    "each": ("reg", "reg", "reg"),
    "give": ("some",),
}


def is_reg(thing):
    """Whether any value is a register."""
    if not isinstance(thing, tuple) or len(thing) != 2:
        return False
    return thing[0] in ("l", "s") and is_whole(thing[1])


def are_regs(thing):
    """Whether any value is a tuple of registers."""
    return isinstance(thing, tuple) and all(is_reg(part) for part in thing)


def fits_part(kind, thing):
    """Whether any value is a part of a row of such a kind."""
    if kind == "reg":
        return is_reg(thing)
    if kind == "word":
        return is_word(thing)
    if kind == "letter":
        return thing in ("0", "1")
    if kind == "number":
        return type(thing) is int
    return are_regs(thing) and (kind == "regs" or len(thing) > 0)


def is_row(thing):
    """Whether any value is a row."""
    if not isinstance(thing, tuple) or not thing or not isinstance(thing[0], str):
        return False
    if thing[0] not in ROW_PARTS or len(thing) != len(ROW_PARTS[thing[0]]) + 1:
        return False
    return all(fits_part(kind, part) for kind, part in zip(ROW_PARTS[thing[0]], thing[1:]))


def reads_of(row):
    """The tuple of the registers that a row reads."""
    kind = row[0]
    if kind in ("move", "put", "cut"):
        return row[2:3]
    if kind == "call":
        return row[2] + row[3]
    if kind in ("when", "each"):
        return row[1:2]
    return row[1] if kind == "give" else ()


def writes_of(row):
    """The tuple of the registers that a row writes."""
    kind = row[0]
    if kind in ("word", "move", "put", "cut"):
        return row[1:2]
    if kind == "call":
        return row[4]
    return row[2:] if kind == "each" else ()


def regs_of(row):
    """The tuple of all registers that a row names."""
    regs = ()
    for kind, part in zip(ROW_PARTS[row[0]], row[1:]):
        if kind == "reg":
            regs = regs + (part,)
        elif kind in ("regs", "some"):
            regs = regs + part
    return regs


def with_regs(row, others):
    """A row with the register that a dict has for each one in its place."""
    parts = [row[0]]
    for kind, part in zip(ROW_PARTS[row[0]], row[1:]):
        if kind == "reg":
            part = others[part]
        elif kind in ("regs", "some"):
            part = tuple([others[reg] for reg in part])
        parts.append(part)
    return tuple(parts)
