"""The plain meaning of programs: their outcomes and steps."""

from quicktongue.errors import BadInputs, BadName, BadProgram
from quicktongue.levels import is_program
from quicktongue.runner import Runner
from quicktongue.trees import are_words


def run(program, f, leads, softs):
    """The pair of the tuple of the outcomes of a function and of the number of its steps."""
    at = position_to_run(program, f, leads, softs)
    runner = Runner(program)
    outcomes = runner.run_at(at, leads, softs, None)
    return tuple(outcomes), runner.steps


def trace(program, f, leads, softs):
    """The tuple of the commands of a function that are executed: the path, and the soft names' words before it."""
    at = position_to_run(program, f, leads, softs)
    notes = []
    runner = Runner(program)
    runner.run_at(at, leads, softs, notes)
    return tuple(notes)


def position_to_run(program, f, leads, softs):
    """The position of the function f of a program; raises the errors of a run that cannot begin."""
    if not is_program(program):
        raise BadProgram(program)
    positions = [at for at, function in enumerate(program) if function[1] == f]
    if not positions:
        raise BadName(f)
    function = program[positions[0]]
    if not are_words(leads, len(function[2])):
        raise BadInputs(leads)
    if not are_words(softs, len(function[3])):
        raise BadInputs(softs)
    return positions[0]
