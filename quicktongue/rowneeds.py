"""Which registers are needed behind the rows of a code function."""

from quicktongue.layout import Layout
from quicktongue.rows import reads_of, writes_of


def needs_behind_rows(rows):
    """The list with the dict of the registers that are needed behind each row.

    It is empty for the rows that are passed over. The shape of the rows is right.
    """
    layout = Layout(rows)
    nexts = [() if at in layout.heads else next_rows(rows, layout, at) for at in range(len(rows))]
    behind = [{} for row in rows]
    before = [{} for row in rows]
    grown = True
    while grown:
        grown = False
        for at in range(len(rows) - 1, -1, -1):
            behind[at] = needed_by_any(nexts[at], before)
            needed = needed_before(rows[at], behind[at])
            if len(needed) > len(before[at]):
                before[at] = needed
                grown = True
    return behind


def needed_before(row, behind):
    """What is needed before a row, from what is needed behind it."""
    written = writes_of(row)
    needed = {reg: True for reg in behind if reg not in written}
    for reg in reads_of(row):
        needed[reg] = True
    return needed


def needed_by_any(nexts, before):
    """What is needed on some of several ways; each one is a position and what is written on the way to it."""
    needed = {}
    for at, written in nexts:
        for reg in before[at]:
            if reg not in written:
                needed[reg] = True
    return needed


def next_rows(rows, layout, at):
    """The list of the rows that can be next, each one with what a turn writes on the way to it."""
    kind = rows[at][0]
    if kind == "give":
        return []
    if kind == "when":
        return [way for first in layout.branches[at] for way in onward(rows, layout, first)]
    if kind != "each":
        return onward(rows, layout, at + 1)
    end = layout.ends[at]
    inner = [(at + 1, ())] if at + 1 < end else []
    return inner + onward(rows, layout, end + 1)


def onward(rows, layout, at):
    """The list of the ways from a position: past each row that is passed over, and into the rounds that end."""
    ways = []
    while at in layout.heads:
        if layout.is_turn(at):
            # Only an "each" comes to the end of an empty round, so this one has a first row.
            head = layout.heads[at]
            ways.append((head + 1, rows[head][2:]))
        at = layout.position_behind(at)
    ways.append((at, ()))
    return ways
