"""Which leading registers are set ahead of the rows of a code function."""

from quicktongue.layout import Layout
from quicktongue.rows import writes_of


def sets_ahead(rows, arguments):
    """The list with the dict of the leading registers that are set ahead of each row.

    The shape of the rows is right. `arguments` are those leading arguments that
    are asked for: the others don't change anything.
    """
    finder = AheadFinder(rows, arguments)
    return [finder.pass_row(at) for at in range(len(rows))]


class AheadFinder:
    """Goes through the rows once.

    `now` is the dict of the registers that are set; it is replaced, and never
    changed. `waiting` has a list for each round and branch around: for a round
    what is set behind it, and for a branch what is set before the "when" and
    behind the branches before it.
    """

    def __init__(self, rows, arguments):
        self.rows = rows
        self.layout = Layout(rows)
        self.now = {reg: True for reg in arguments}
        self.waiting = []

    def pass_row(self, at):
        """What is set ahead of the row; goes on to the row behind it."""
        ahead = self.now
        kind = self.rows[at][0]
        if kind == "when":
            self.waiting.append([ahead])
        elif kind in ("zero", "one"):
            self.waiting[-1].append(ahead)
            self.now = self.waiting[-1][0]
        elif kind == "end":
            self.end()
        else:
            if kind == "each":
                self.begin_round(at)
            self.set_regs(writes_of(self.rows[at]))
        return ahead

    def set_regs(self, regs):
        """Sets those of some registers that are leading ones."""
        fresh = [reg for reg in regs if reg[0] == "l" and reg not in self.now]
        if fresh:
            self.now = {reg: True for reg in list(self.now) + fresh}

    def begin_round(self, at):
        """Takes away what the round, or its "each", writes: a turn can follow another one."""
        written = {}
        for row in self.rows[at:self.layout.ends[at]]:
            for reg in writes_of(row):
                written[reg] = True
        self.now = {reg: True for reg in self.now if reg not in written}
        self.waiting.append([self.now])

    def end(self):
        """Ends a round or the last branch."""
        befores = self.waiting.pop()
        if len(befores) == 1:
            self.now = befores[0]
        else:
            _, none, zero = befores
            self.now = {reg: True for reg in self.now if reg in none and reg in zero}
