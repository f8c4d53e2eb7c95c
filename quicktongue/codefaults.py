"""The faults of units: only the first one of each function is looked for."""

from quicktongue.ahead import sets_ahead
from quicktongue.layout import shape_fault
from quicktongue.rows import reads_of, regs_of
from quicktongue.units import fits_unit


def fits_taken(thing):
    """Whether any value is a unit without faults."""
    return fits_unit(thing) and fault_of_unit(thing) is None


def fits_whole(thing):
    """Whether any value is a unit without faults that needs nothing."""
    return fits_taken(thing) and thing[0] == ()


def fault_of_unit(unit):
    """The first fault of a unit, None if there is none."""
    callees = [need[1:] for need in unit[0]]
    for number, code in enumerate(unit[1]):
        fault = fault_of_code(code, callees)
        if fault is not None:
            return (number,) + fault
        callees.append((code[0], code[1], len(code[4][-1][1])))
    return None


def fault_of_code(code, callees):
    """The row and the word of the first fault of a code function, None if there is none.

    `callees` has the numbers of leads, softs and results of all functions that
    it can call.
    """
    rows = code[4]
    at = shape_fault(rows)
    if at is not None:
        return (at, "shape")
    aheads = sets_ahead(rows, named_arguments(code))
    for at, row in enumerate(rows):
        word = fault_of_row(row, code, callees, aheads[at])
        if word is not None:
            return (at, word)
    return None


def named_arguments(code):
    """The list of the leading arguments that some row names: there can be far more of them than rows."""
    return [reg for row in code[4] for reg in regs_of(row) if reg[0] == "l" and reg[1] < code[0]]


def fault_of_row(row, code, callees, ahead):
    """The word of the first fault of a row, None if there is none."""
    if any(reg[1] >= wide_of(code, reg[0]) for reg in regs_of(row)):
        return "register"
    if row[0] == "call" and not is_right_call(row, callees):
        return "call"
    if any(reg[0] == "s" for reg in leading_parts(row)):
        return "level"
    if row[0] == "each" and row[2] == row[3]:
        return "twice"
    if any(reg[0] == "l" and reg not in ahead for reg in reads_of(row)):
        return "unset"
    return None


def wide_of(code, kind):
    """How many registers of a kind a code function has."""
    return code[2] if kind == "l" else code[3]


def is_right_call(row, callees):
    """Whether a "call" is of a function that it can call, with registers that fit it."""
    _, number, leads, softs, outs = row
    if number < 0 or number >= len(callees):
        return False
    return callees[number] == (len(leads), len(softs), len(outs)) and len(set(outs)) == len(outs)


def leading_parts(row):
    """The tuple of the registers of a row that have to be leading ones."""
    kind = row[0]
    if kind in ("move", "put", "cut"):
        return row[2:3] if row[1][0] == "l" else ()
    if kind == "call":
        return row[2] + row[3] if any(out[0] == "l" for out in row[4]) else row[2]
    return row[1:] if kind == "each" else ()
