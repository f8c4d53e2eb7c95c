"""Registers that stand for others, and those that must be apart."""

from quicktongue.kinds import is_whole
from quicktongue.rowneeds import needed_before, needs_behind_rows
from quicktongue.rows import regs_of, with_regs, writes_of


def fits_sharing(unit, thing):
    """Whether any value is a sharing of a unit."""
    if not isinstance(thing, tuple) or len(thing) != len(unit[1]):
        return False
    return all(fits_pair(code, pair) for code, pair in zip(unit[1], thing))


def fits_pair(code, thing):
    """Whether any value tells which registers stand for those of a code function."""
    if not isinstance(thing, tuple) or len(thing) != 2:
        return False
    leads, softs, wide_leads, wide_softs, _ = code
    return fits_numbers(thing[0], leads, wide_leads) and fits_numbers(thing[1], softs, wide_softs)


def fits_numbers(thing, many, wide):
    """Whether any value is a tuple of so many numbers, with those of the arguments at their own places."""
    if not isinstance(thing, tuple) or len(thing) != wide or not all(is_whole(part) for part in thing):
        return False
    return thing[:many] == tuple(range(many))


def stand_ins(pair):
    """The dict of the registers that stand for those of a code function."""
    others = {}
    for kind, numbers in zip(("l", "s"), pair):
        for at, number in enumerate(numbers):
            others[(kind, at)] = (kind, number)
    return others


def rivals_of(code):
    """The list of (row, r, r2) for all registers that must be apart in a code function.

    Two arguments are left out, because in each sharing they stand for themselves.
    """
    rows = code[4]
    behind = needs_behind_rows(rows)
    rivals = []
    for other in sorted(needed_before(rows[0], behind[0])):
        if other[0] == "s" and other[1] >= code[1]:
            for at in range(code[1]):
                rivals.append((-1, ("s", at), other))
                rivals.append((-1, other, ("s", at)))
    for at, row in enumerate(rows):
        written = writes_of(row)
        others = sorted(set(list(behind[at]) + list(written)))
        for reg in written:
            rivals.extend([(at, reg, other) for other in others if other[0] == reg[0] and other != reg])
    return rivals


def all_clashes(unit, sharing):
    """The list of all certificates that a register stands for two that must be apart."""
    clashes = []
    for f, code in enumerate(unit[1]):
        others = stand_ins(sharing[f])
        for row, reg, other in rivals_of(code):
            if others[reg] == others[other]:
                clashes.append(("clash", f, row, reg, other))
    return clashes


def shared_code(code, pair):
    """A code function with the registers that stand for the old ones."""
    others = stand_ins(pair)
    leads, softs = code[:2]
    rows = tuple([with_regs(row, others) for row in code[4]])
    named = [reg for row in rows for reg in regs_of(row)]
    wide_leads = max([leads] + [reg[1] + 1 for reg in named if reg[0] == "l"])
    wide_softs = max([softs] + [reg[1] + 1 for reg in named if reg[0] == "s"])
    return (leads, softs, wide_leads, wide_softs, rows)


def least_pair(code):
    """The numbers of registers that stand for those of a code function so that they are apart.

    One register after the other takes the least number that is free for it. So
    each number is at most the old one.
    """
    apart = {}
    for _, reg, other in rivals_of(code):
        note_apart(apart, reg, other)
        note_apart(apart, other, reg)
    return (least_numbers("l", code[0], code[2], apart), least_numbers("s", code[1], code[3], apart))


def note_apart(apart, reg, other):
    """Notes in a dict that a register must be apart from another one."""
    if reg not in apart:
        apart[reg] = {}
    apart[reg][other] = True


def least_numbers(kind, many, wide, apart):
    """The numbers for the registers of one kind; `apart` has for each register those that it must be apart from."""
    numbers = list(range(many))
    for at in range(many, wide):
        others = apart.get((kind, at), {})
        barred = {numbers[other[1]]: True for other in others if other[1] < at}
        number = 0
        while number in barred:
            number += 1
        numbers.append(number)
    return tuple(numbers)
