"""The simplifier: which names are needed, and its steps."""

from quicktongue.errors import BadPath, BadProgram, BadStep
from quicktongue.kinds import is_among, is_path
from quicktongue.levels import is_program
from quicktongue.needs import needs_behind
from quicktongue.shrinking import after_step, all_steps


def needed_behind(program, path):
    """The ascending tuple of the soft names that are needed after the command at a path."""
    require_program(program)
    if not is_path(path) or not path or path[0] >= len(program):
        raise BadPath(path)
    behind = needs_behind(program[path[0]], path[:1])
    if path not in behind:
        raise BadPath(path)
    return behind[path]


def steps_from(program):
    """The ascending tuple of all simplifying steps of a program."""
    require_program(program)
    return tuple(all_steps(program))


def is_step(program, thing):
    """Whether any value is a simplifying step of a program."""
    require_program(program)
    return is_among(thing, all_steps(program))


def behind_step(program, step):
    """The program after a simplifying step."""
    if not is_step(program, step):
        raise BadStep(step)
    return after_step(program, step)


def simplifying(program):
    """The tuple of the steps that are taken, always the first one, until there is none."""
    return shrunk(program)[0]


def simplified(program):
    """The program after the steps that simplifying takes."""
    return shrunk(program)[1]


def shrunk(program):
    """The pair of the tuple of the steps that simplifying takes, and of the program after them."""
    require_program(program)
    taken = []
    steps = all_steps(program)
    while steps:
        taken.append(steps[0])
        program = after_step(program, steps[0])
        steps = all_steps(program)
    return tuple(taken), program


def require_program(thing):
    """Raises BadProgram if any value is not a program."""
    if not is_program(thing):
        raise BadProgram(thing)
