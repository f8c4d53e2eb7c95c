"""The shape of the rows of a code function: its rounds and branches."""

# For each row that goes on with a when the one that the when has to have come to.
BEFORE = {"zero": "when", "one": "zero"}


def shape_fault(rows):
    """The number of the first rows behind which the next one can't be right; None if the shape is right."""
    waiting = []
    for at, row in enumerate(rows):
        kind = row[0]
        if kind in ("when", "each"):
            waiting.append(kind)
        elif kind in BEFORE:
            if not waiting or waiting[-1] != BEFORE[kind]:
                return at
            waiting[-1] = kind
        elif kind == "end":
            if not waiting or waiting.pop() not in ("one", "each"):
                return at
        elif kind == "give":
            if waiting:
                return at
            return None if at + 1 == len(rows) else at + 1
    return len(rows)


class Layout:
    """The rounds and branches of rows of right shape, by positions.

    `heads` has for each "zero", "one" and "end" its "when" or "each", `ends`
    for each of these two its "end", and `branches` for each "when" the first
    positions of its three branches (for an "each" that of its round). `rounds`
    has for each row the positions of each "each" whose round it is within.
    """

    def __init__(self, rows):
        self.rows = rows
        self.heads = {}
        self.ends = {}
        self.branches = {}
        self.rounds = []
        waiting = []
        for at, row in enumerate(rows):
            if row[0] in ("zero", "one", "end"):
                self.note(at, waiting[-1])
            if row[0] == "end":
                waiting.pop()
            self.rounds.append(tuple([head for head in waiting if rows[head][0] == "each"]))
            if row[0] in ("when", "each"):
                self.branches[at] = (at + 1,)
                waiting.append(at)

    def note(self, at, head):
        """Notes a "zero", "one" or "end" of a "when" or "each"."""
        self.heads[at] = head
        if self.rows[at][0] == "end":
            self.ends[head] = at
        else:
            self.branches[head] = self.branches[head] + (at + 1,)

    def is_turn(self, at):
        """Whether a "zero", "one" or "end" is that of a round."""
        return self.rows[self.heads[at]][0] == "each"

    def position_behind(self, at):
        """The position behind the "when" or "each" that a "zero", "one" or "end" belongs to."""
        return self.ends[self.heads[at]] + 1
