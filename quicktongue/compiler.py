"""The plain unit of a program, and the commands that its rows are made for."""

from quicktongue.codemaking import CodeMaker
from quicktongue.errors import BadProgram
from quicktongue.levels import is_program


def plain_unit(program):
    """The unit that a program is compiled to, with a register of its own for each name and each term's word."""
    codes = tuple([maker.code() for maker in code_makers(program)])
    shows = tuple([(function[1], at) for at, function in enumerate(program)])
    return ((), codes, shows)


def homes(program):
    """For each function the tuple of the homes of its rows: the paths of commands, or that of its gives."""
    return tuple([tuple(maker.paths) for maker in code_makers(program)])


def code_makers(program):
    """The list of what makes the code of each function of a program."""
    if not is_program(program):
        raise BadProgram(program)
    positions = {function[1]: at for at, function in enumerate(program)}
    return [CodeMaker(function, (at,), positions) for at, function in enumerate(program)]
