"""Pile machines: two piles of letters, states, and a clock."""

from quicktongue.errors import BadMachine, BadNumber, BadStanding, BadWord
from quicktongue.kinds import is_whole
from quicktongue.trees import is_word

DEEDS = ("stay", "put0", "put1", "cut", "over", "back")


def is_machine(thing):
    """Whether any value is a pile machine."""
    return isinstance(thing, tuple) and len(thing) > 0 and all(fits_state(part, len(thing)) for part in thing)


def pile_step(machine, standing):
    """The standing after a step."""
    require_machine(machine)
    if not fits_standing(machine, standing):
        raise BadStanding(standing)
    return next_standing(machine, standing)


def standing_after(machine, word, many):
    """The standing after many steps from the first standing for an input."""
    require_machine(machine)
    if not is_word(word):
        raise BadWord(word)
    if not is_whole(many):
        raise BadNumber(many)
    return later_standing(machine, word, many)


def outcome(machine, c, d, word):
    """The left pile after as many steps as the clock (c, d) gives for the length of an input."""
    require_machine(machine)
    require_clock(c, d)
    if not is_word(word):
        raise BadWord(word)
    return later_standing(machine, word, clock_steps(len(word), c, d))[1]


def require_machine(thing):
    """Raises BadMachine if any value is not a pile machine."""
    if not is_machine(thing):
        raise BadMachine(thing)


def require_clock(c, d):
    """Raises BadNumber for the first one of two values that is not an integer from 0 on."""
    for thing in (c, d):
        if not is_whole(thing):
            raise BadNumber(thing)


def fits_state(thing, many):
    """Whether any value is a state of a machine with so many states."""
    return isinstance(thing, tuple) and len(thing) == 3 and all(fits_rule(part, many) for part in thing)


def fits_rule(thing, many):
    """Whether any value is a rule of a machine with so many states."""
    if not isinstance(thing, tuple) or len(thing) != 2:
        return False
    return is_whole(thing[0]) and thing[0] <= many and thing[1] in DEEDS


def fits_standing(machine, thing):
    """Whether any value is a standing of a machine."""
    if not isinstance(thing, tuple) or len(thing) != 3:
        return False
    return is_whole(thing[0]) and thing[0] <= len(machine) and is_word(thing[1]) and is_word(thing[2])


def clock_steps(length, c, d):
    """The number of steps that the clock (c, d) gives for an input of such a length."""
    steps = 1
    for _ in range(c):
        steps = steps * length
    return steps + d


def later_standing(machine, word, many):
    """The standing after many steps from the first standing for an input."""
    standing = (0, word, "")
    left = many
    while left > 0 and standing[0] < len(machine):
        standing = next_standing(machine, standing)
        left -= 1
    return standing


def next_standing(machine, standing):
    """The standing after a step; one that is halted stays as it is."""
    state, left, right = standing
    if state == len(machine):
        return standing
    letter = 0 if left == "" else 1 + int(left[-1])
    following, deed = machine[state][letter]
    return (following,) + piles_after(deed, left, right)


def piles_after(deed, left, right):
    """The pair of the two piles after a deed."""
    if deed in ("put0", "put1"):
        return left + deed[-1], right
    if deed == "cut":
        return left[:-1], right
    if deed == "over":
        return left[:-1], right + left[-1:]
    if deed == "back":
        return left + right[-1:], right[:-1]
    return left, right
