"""The soft names that are needed behind the commands of a function."""

from quicktongue.ascending import ascending, united, without


def needs_behind(function, path):
    """The dict of the needed names behind each command of a function that stands at a path."""
    finder = NeedFinder(function, path)
    finder.fill()
    return finder.behind


class NeedFinder:
    """Finds the least table of needed names by going backwards until nothing is added.

    `behind` has what is needed behind the command at each path, and `entries`
    what is needed before the block of the each at a path, as far as it is known.
    """

    def __init__(self, function, path):
        self.function = function
        self.path = path
        self.softs = function[3] + function[4]
        self.behind = {}
        self.entries = {}
        self.grown = True

    def fill(self):
        """Fills the table."""
        last = ascending([name for term in self.function[6] for name in self.reads_of(term)])
        # Only what is needed before the block of an each has to be known before it is found.
        while self.grown:
            self.grown = False
            self.before_block(self.function[5], self.path + (5,), last)

    def reads_of(self, term):
        """The list of the soft names that a term reads."""
        return [name for name in names_read(term) if name in self.softs]

    def before_block(self, block, path, needed):
        """What is needed before a block, from what is needed behind it."""
        for at in range(len(block) - 1, -1, -1):
            needed = self.before_command(block[at], path + (at,), needed)
        return needed

    def before_command(self, command, path, needed):
        """What is needed before a command, from what is needed behind it."""
        self.behind[path] = needed
        kind = command[0]
        if kind == "let":
            return needed
        if kind == "set":
            left = without(needed, command[1])
            return united(left, tuple(self.reads_of(command[2]))) if left != needed else needed
        if kind == "each":
            return self.before_each(command, path, needed)
        befores = tuple(self.reads_of(command[1]))
        for at in range(2, 5):
            befores = befores + self.before_block(command[at], path + (at,), needed)
        return ascending(befores)

    def before_each(self, command, path, needed):
        """What is needed before an each, and behind its block, because a turn can follow both."""
        known = self.entries.get(path, ())
        entry = self.before_block(command[4], path + (4,), united(needed, known))
        if entry != known:
            self.entries[path] = entry
            self.grown = True
        return united(needed, entry)


def names_read(term):
    """The list of the names that a term reads."""
    found = []
    waiting = [term]
    while waiting:
        part = waiting.pop()
        if part[0] == "name":
            found.append(part[1])
        elif part[0] == "call":
            waiting.extend(part[2] + part[3])
        elif part[0] != "word":
            waiting.append(part[1])
    return found
