"""The machine's work: frames, and the rows that are executed in them."""

from quicktongue.ahead import sets_ahead
from quicktongue.layout import Layout


class Guide:
    """What the machine has to know of a code function: its rows, their layout, and what is set ahead of them."""

    def __init__(self, code):
        leads, _, self.wide_leads, self.wide_softs, self.rows = code
        self.layout = Layout(self.rows)
        self.aheads = sets_ahead(self.rows, [("l", at) for at in range(leads)])


class Frame:
    """A frame, with lists in place of its tuples."""

    def __init__(self, f, row, leads, softs, rounds):
        self.f = f
        self.row = row
        self.leads = list(leads)
        self.softs = list(softs)
        self.rounds = list(rounds)

    def told(self):
        """The frame as a tuple."""
        return (self.f, self.row, tuple(self.leads), tuple(self.softs), tuple(self.rounds))

    def held(self, reg):
        """The word that a register holds."""
        return self.leads[reg[1]] if reg[0] == "l" else self.softs[reg[1]]

    def write(self, reg, word):
        """Writes a word to a register."""
        if reg[0] == "l":
            self.leads[reg[1]] = word
        else:
            self.softs[reg[1]] = word


class Engine:
    """A run of a unit's code: its frames, and its outcomes as soon as it has ended.

    `many` counts the rows that were executed and the turns that were begun.
    """

    def __init__(self, unit):
        self.guides = [Guide(code) for code in unit[1]]
        self.frames = []
        self.outcomes = None
        self.many = 0

    def begin(self, f, leads, softs):
        """Adds the beginning of a function as the last frame."""
        guide = self.guides[f]
        free_leads = (None,) * (guide.wide_leads - len(leads))
        free_softs = ("",) * (guide.wide_softs - len(softs))
        self.frames.append(Frame(f, 0, leads + free_leads, softs + free_softs, ()))

    def go_to_end(self):
        """Executes rows until the run has ended."""
        while self.outcomes is None:
            self.execute()

    def execute(self):
        """Executes the row of the last frame."""
        frame = self.frames[-1]
        row = self.guides[frame.f].rows[frame.row]
        kind = row[0]
        self.many += 1
        if kind == "call":
            self.begin(row[1], held_all(frame, row[2]), held_all(frame, row[3]))
        elif kind == "give":
            self.give(held_all(frame, row[1]))
        elif kind == "when":
            word = frame.held(row[1])
            branch = 0 if word == "" else 1 + int(word[-1])
            self.go_on(frame, self.guides[frame.f].layout.branches[frame.row][branch])
        elif kind == "each":
            frame.rounds.append(frame.held(row[1]))
            self.go_on(frame, self.turn(frame, frame.row))
        else:
            frame.write(row[1], written_word(row, frame))
            self.go_on(frame, frame.row + 1)

    def give(self, words):
        """Ends the last frame with its outcomes."""
        self.frames.pop()
        if not self.frames:
            self.outcomes = words
            return
        frame = self.frames[-1]
        call = self.guides[frame.f].rows[frame.row]
        for reg, word in zip(call[4], words):
            frame.write(reg, word)
        self.go_on(frame, frame.row + 1)

    def go_on(self, frame, at):
        """Goes on to the row at a position, or passes over it to the one that is executed next."""
        guide = self.guides[frame.f]
        layout = guide.layout
        while at in layout.heads:
            at = self.turn(frame, layout.heads[at]) if layout.is_turn(at) else layout.position_behind(at)
        frame.row = at
        for number in range(guide.wide_leads):
            if ("l", number) not in guide.aheads[at]:
                frame.leads[number] = None

    def turn(self, frame, head):
        """Begins a turn of the round whose "each" is at a position; where it goes on."""
        guide = self.guides[frame.f]
        word = frame.rounds.pop()
        if word == "":
            return guide.layout.ends[head] + 1
        self.many += 1
        frame.rounds.append(word[:-1])
        rest, letter = guide.rows[head][2:]
        frame.write(rest, word[:-1])
        frame.write(letter, word[-1])
        return head + 1


def held_all(frame, regs):
    """The tuple of the words that some registers hold."""
    return tuple([frame.held(reg) for reg in regs])


def written_word(row, frame):
    """What a "word", "move", "put" or "cut" writes."""
    kind = row[0]
    if kind == "word":
        return row[2]
    word = frame.held(row[2])
    if kind == "put":
        return word + row[3]
    return word[:-1] if kind == "cut" else word
