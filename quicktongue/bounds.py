"""The polynomials that bound the functions of a program, and the tables of such polynomials."""

from quicktongue.errors import BadProgram, BadTable
from quicktongue.kinds import is_among
from quicktongue.levels import is_program
from quicktongue.polywork import fits_poly, short_exponents
from quicktongue.rules import pair_by_rules


def bounds(program):
    """The table that the rules give for a program."""
    if not is_program(program):
        raise BadProgram(program)
    table = ()
    for at in range(len(program)):
        table = table + (pair_by_rules(program, at, table),)
    return table


def judge_table(program, table):
    """Any certificate of a program and a table: that it is right, or where it is short."""
    require_table(program, table)
    shorts = all_shorts(program, table)
    return shorts[0] if shorts else ("right",)


def table_holds(program, table, thing):
    """Whether any value is a certificate of a program and a table."""
    require_table(program, table)
    right = all_shorts(program, table) or [("right",)]
    return is_among(thing, right)


def require_table(program, table):
    """Raises BadProgram if a value is not a program, then BadTable if another one is not a table of it."""
    if not is_program(program):
        raise BadProgram(program)
    if not fits_table(program, table):
        raise BadTable(table)


def fits_table(program, thing):
    """Whether any value is a table of a program."""
    if not isinstance(thing, tuple) or len(thing) != len(program):
        return False
    return all(fits_table_pair(len(function[2]), pair) for function, pair in zip(program, thing))


def fits_table_pair(many, thing):
    """Whether any value is a pair of polynomials over so many lengths."""
    return isinstance(thing, tuple) and len(thing) == 2 and all(fits_poly(many, part) for part in thing)


def all_shorts(program, table):
    """The list of all certificates that a table is short."""
    shorts = []
    for at in range(len(program)):
        pair = pair_by_rules(program, at, table)
        for j in range(2):
            for exponents in short_exponents(pair[j], table[at][j]):
                shorts.append(("short", at, exponents, j))
    return shorts
