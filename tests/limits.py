"""Whether programs, units and polynomials are within the limits of the document's parts."""

from quicktongue.bounds import bounds
from quicktongue.bytework import bytes_of
from quicktongue.codebounds import code_bounds
from quicktongue.compiler import plain_unit
from quicktongue.texts import written

COMMANDS = ("let", "set", "when", "each")
TERMS = ("name", "word", "put", "cut", "call")


def parts_in(thing):
    """The pairs (part, depth) of all terms and commands of a block, a command or a term."""
    if type(thing) is not tuple or not thing:
        return []
    inner = [pair for part in thing for pair in parts_in(part)]
    if thing[0] in COMMANDS + TERMS and is_part(thing):
        return [(thing, 1 + max([depth for _, depth in inner], default=0))] + inner
    return inner


def is_part(thing):
    """Whether a tuple that begins so is a term or a command, and no tuple of names."""
    kinds = {"name": 2, "word": 2, "put": 3, "cut": 2, "call": 4, "let": 3, "set": 3, "when": 5, "each": 5}
    if len(thing) != kinds[thing[0]]:
        return False
    return thing[0] in ("name", "word") or any(type(part) is tuple for part in thing[1:])


def check_program(case, program):
    """The program is within the limits of parts 1 to 4, 9 and 12."""
    case.assertLessEqual(len(program), 8)
    parts = [pair for function in program for pair in parts_in(function[5]) + parts_in(function[6])]
    case.assertLessEqual(len(parts), 600)
    case.assertLessEqual(max((depth for _, depth in parts), default=0), 10)
    lines = written(program).split("\n")
    case.assertLessEqual(len(lines), 300)
    case.assertLessEqual(max(len(line) for line in lines), 200)
    check_table(case, bounds(program))
    check_unit(case, plain_unit(program))


def check_table(case, table):
    """The polynomials are within the limits of parts 4 and 7."""
    for pair in table:
        for poly in pair:
            case.assertLessEqual(len(poly), 60)
            for exponents, coefficient in poly:
                case.assertLessEqual(max(exponents, default=0), 12)
                case.assertLess(coefficient, 10 ** 40)


def check_unit(case, unit):
    """The unit is within the limits of parts 7 and 10."""
    case.assertLessEqual(max(len(unit[0]), len(unit[1])), 12)
    for code in unit[1]:
        case.assertLessEqual(max(code[2:4]), 40)
        case.assertLessEqual(len(code[4]), 120)
        depth = 0
        for row in code[4]:
            depth += {"when": 1, "each": 1, "end": -1}.get(row[0], 0)
            case.assertLessEqual(depth, 5)
            if row[0] == "word":
                case.assertLessEqual(len(row[2]), 60)
            for part in row[1:]:
                case.assertTrue(type(part) is not tuple or len(part) <= 40)
    check_table(case, code_bounds(unit))
    case.assertTrue(all(0 <= byte <= 255 for byte in bytes_of(unit)))
