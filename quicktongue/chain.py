"""The whole chain: from a program to the run of its bytes, which the loader has taken."""

from quicktongue.bytework import bytes_of
from quicktongue.compiler import plain_unit
from quicktongue.loader import load, load_bounds
from quicktongue.machine import run
from quicktongue.meaning import position_to_run
from quicktongue.registers import shared, sharing_of


def made_bytes(program):
    """The bytes of a program's plain unit, with fewer registers; raises BadProgram."""
    unit = plain_unit(program)
    return bytes_of(shared(unit, sharing_of(unit)))


def chained(program, f, leads, softs):
    """The pair of the outcomes and the steps of the machine's run of made bytes."""
    position = position_to_run(program, f, leads, softs)
    return run(load(made_bytes(program)), position, leads, softs)


def chain_bounds(program):
    """The pairs of the polynomials that the loader reads off made bytes, one for each function."""
    return load_bounds(made_bytes(program))
