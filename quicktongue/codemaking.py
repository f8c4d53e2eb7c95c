"""Making the rows of code for one function of a program."""


class CodeMaker:
    """Makes the code of a function that stands at a path; `positions` has those of all functions by name.

    `regs` has the register of each name, and `free` the number of the next
    register of each kind. `rows` are those that are made, and `paths` has the
    home of each one: the command that is being made, or the gives.
    """

    def __init__(self, function, path, positions):
        self.function = function
        self.positions = positions
        self.regs = {}
        self.free = {"l": 0, "s": 0}
        self.rows = []
        self.paths = []
        self.home = path
        for name in function[2]:
            self.regs[name] = self.next_reg("l")
        for name in function[3] + function[4]:
            self.regs[name] = self.next_reg("s")
        self.make_block(function[5], path + (5,))
        self.home = path + (6,)
        self.add_row(("give", self.made_terms(function[6], "s")))

    def code(self):
        """The code function."""
        leads, softs = len(self.function[2]), len(self.function[3])
        return (leads, softs, self.free["l"], self.free["s"], tuple(self.rows))

    def next_reg(self, kind):
        """The next free register of a kind."""
        number = self.free[kind]
        self.free[kind] = number + 1
        return (kind, number)

    def add_row(self, row):
        """Adds a row."""
        self.rows.append(row)
        self.paths.append(self.home)

    def make_block(self, block, path):
        """Makes the rows of a block."""
        for at, command in enumerate(block):
            self.home = path + (at,)
            self.make_command(command, path + (at,))

    def make_command(self, command, path):
        """Makes the rows of a command."""
        kind = command[0]
        if kind == "let":
            made = self.made_term(command[2], "l")
            self.regs[command[1]] = self.next_reg("l")
            self.add_row(("move", self.regs[command[1]], made))
        elif kind == "set":
            self.make_set(command)
        elif kind == "when":
            self.make_when(command, path)
        else:
            self.make_each(command, path)

    def make_set(self, command):
        """Makes the rows of a set: with several names its call writes all of them."""
        outs = tuple([self.regs[name] for name in command[1]])
        if len(outs) == 1:
            self.add_row(("move", outs[0], self.made_term(command[2], "s")))
        else:
            leads, softs = self.made_arguments(command[2], "s")
            self.add_row(("call", self.positions[command[2][1]], leads, softs, outs))

    def make_when(self, command, path):
        """Makes the rows of a when."""
        self.add_row(("when", self.made_term(command[1], "s")))
        for at, last in ((2, "zero"), (3, "one"), (4, "end")):
            self.make_block(command[at], path + (at,))
            self.home = path
            self.add_row((last,))

    def make_each(self, command, path):
        """Makes the rows of an each."""
        rest = self.next_reg("l")
        letter = self.next_reg("l")
        self.regs[command[2]] = rest
        self.regs[command[3]] = letter
        self.add_row(("each", self.regs[command[1]], rest, letter))
        self.make_block(command[4], path + (4,))
        self.home = path
        self.add_row(("end",))

    def made_terms(self, terms, kind):
        """The tuple of the registers that some terms are made to, in their order."""
        return tuple([self.made_term(term, kind) for term in terms])

    def made_term(self, term, kind):
        """Makes the rows of a term at the level of a kind of registers; the register that has its word then."""
        if term[0] == "name":
            return self.regs[term[1]]
        if term[0] == "word":
            out = self.next_reg(kind)
            self.add_row(("word", out, term[1]))
        elif term[0] == "call":
            leads, softs = self.made_arguments(term, kind)
            out = self.next_reg(kind)
            self.add_row(("call", self.positions[term[1]], leads, softs, (out,)))
        else:
            inner = self.made_term(term[1], kind)
            out = self.next_reg(kind)
            self.add_row((term[0], out, inner) + term[2:])
        return out

    def made_arguments(self, term, kind):
        """Makes the rows of a call's arguments; the pair of the tuples of their registers."""
        leads = self.made_terms(term[2], "l")
        return leads, self.made_terms(term[3], kind)
