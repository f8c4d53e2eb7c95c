"""Programs made for pile machines and for clocks."""

from quicktongue.piles import require_clock, require_machine
from quicktongue.stateparts import clock_rounds, main_function, name_term, set_name
from quicktongue.stateparts import state_function, state_words, step_function


def made(machine, c, d):
    """A program whose last function has the outcome of a machine with the clock (c, d) for each input."""
    require_machine(machine)
    require_clock(c, d)
    words = state_words(len(machine) + 1)
    functions = [state_function(at, state, words) for at, state in enumerate(machine)]
    functions.append(step_function(words))
    functions.append(main_function(c, d))
    return tuple(functions)


def clock_program(c, d):
    """A program whose last function gives as many letters 1 as the clock (c, d) tells steps."""
    require_clock(c, d)
    start = set_name("s", ("word", "1" * d))
    more = set_name("s", ("put", name_term("s"), "1"))
    return (("fun", "clock", ("x",), (), ("s",), (start,) + clock_rounds(c, (more,)), (name_term("s"),)),)
