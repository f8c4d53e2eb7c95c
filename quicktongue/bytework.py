"""The bytes of units, and the units of bytes."""

from quicktongue.bytereading import FIRST_SOFT, HEAD, KINDS, MOST, ByteReader
from quicktongue.errors import BadBytes, BadUnit
from quicktongue.kinds import is_whole
from quicktongue.rows import ROW_PARTS
from quicktongue.units import fits_unit


def bytes_of(unit):
    """The bytes of a unit in which the rows of each function have exactly one "give", as the last row."""
    if not fits_unit(unit) or not all(are_given_once(code[4]) for code in unit[1]):
        raise BadUnit(unit)
    needs, codes, shows = unit
    numbers = list(HEAD) + [len(needs)]
    for need in needs:
        numbers.extend(name_bytes(need[0]) + list(need[1:]))
    numbers.append(len(codes))
    for code in codes:
        numbers.extend(list(code[:4]))
        for row in code[4]:
            numbers.extend(row_bytes(row))
    numbers.append(len(shows))
    for name, position in shows:
        numbers.extend(name_bytes(name) + [position])
    return tuple(numbers)


def unit_of(code):
    """The unit of bytes; raises BadBytes with the number of the first bytes that can begin such bytes."""
    if not isinstance(code, tuple) or not all(is_whole(part) and part <= MOST for part in code):
        raise BadBytes(-1)
    return ByteReader(code).whole_unit()


def are_given_once(rows):
    """Whether exactly one of some rows is a "give", namely the last one."""
    return [row[0] for row in rows].count("give") == 1 and rows[-1][0] == "give"


def name_bytes(name):
    """The list of the bytes of a name."""
    return [len(name)] + [ord(sign) for sign in name]


def row_bytes(row):
    """The list of the bytes of a row."""
    numbers = [KINDS.index(row[0]) + 1]
    for kind, part in zip(ROW_PARTS[row[0]], row[1:]):
        numbers.extend(part_bytes(kind, part))
    return numbers


def part_bytes(kind, part):
    """The list of the bytes of a part of a row, which is of such a kind."""
    if kind == "reg":
        return [reg_byte(part)]
    if kind == "letter":
        return [int(part)]
    if kind == "number":
        return [part]
    if kind == "word":
        return [len(part)] + [int(letter) for letter in part]
    return [len(part)] + [reg_byte(reg) for reg in part]


def reg_byte(reg):
    """The byte of a register."""
    return reg[1] if reg[0] == "l" else FIRST_SOFT + reg[1]
