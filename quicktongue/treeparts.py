"""Putting the lines of a text together to functions."""

from quicktongue.parts import Unreadable

BRANCHES = ("none", "zero", "one")


class Level:
    """A line that heads others, and what is read of the lines below it.

    `above` is the indent of the heading line, and `indent` that of the lines
    below it, which is -1 as long as there is none. `block` holds the commands
    that are read, or the three blocks of a when; `branches` is the number of
    those branches that can no longer begin.
    """

    def __init__(self, line, above):
        self.line = line
        self.above = above
        self.indent = -1
        self.block = [(), (), ()] if line[0] == "when" else []
        self.branches = 0

    def command(self):
        """The command that a when or an each is with what was read below it."""
        if self.line[0] == "when":
            return self.line + tuple(self.block)
        return self.line + (tuple(self.block),)


class TreeReader:
    """Reads functions line by line; every line is told with its indent."""

    def __init__(self):
        self.functions = []
        self.levels = []

    def read_line(self, indent, line):
        """Goes on by one line; raises Unreadable if it cannot follow the lines before it."""
        if not self.levels:
            self.begin_function(indent, line)
            return
        self.find_level(indent)
        level = self.levels[-1]
        if level.line[0] == "when":
            self.read_branch(level, indent, line)
        elif line[0] == "give":
            self.end_function(line)
        elif line[0] in ("when", "each"):
            self.levels.append(Level(line, indent))
        elif line[0] in ("let", "set"):
            level.block.append(line)
        else:
            raise Unreadable("no such line stands in a block")

    def begin_function(self, indent, line):
        """Reads a line outside of all functions."""
        if line[0] != "fun" or indent != 0:
            raise Unreadable("no function begins here")
        self.levels.append(Level(line, indent))

    def find_level(self, indent):
        """Ends levels until lines with such an indent can stand in the last one; raises Unreadable."""
        last = self.levels[-1]
        if last.indent < 0 and indent > last.above:
            last.indent = indent
        while self.levels[-1].indent != indent:
            if len(self.levels) == 1:
                raise Unreadable("no line with such an indent can stand here")
            self.end_level()

    def end_level(self):
        """Ends the last level, which is not that of a function, and hands it to the one around it."""
        ended = self.levels.pop()
        around = self.levels[-1]
        if ended.line[0] in BRANCHES:
            around.block[BRANCHES.index(ended.line[0])] = tuple(ended.block)
        else:
            around.block.append(ended.command())

    def read_branch(self, level, indent, line):
        """Reads a line directly below a when."""
        if line[0] not in BRANCHES[level.branches:]:
            raise Unreadable("no such branch can follow")
        level.branches = BRANCHES.index(line[0]) + 1
        self.levels.append(Level(line, indent))

    def end_function(self, line):
        """Reads the last line of a function, which has to stand in the function's own block."""
        if len(self.levels) != 1:
            raise Unreadable("a give stands in a function's own block")
        function = self.levels.pop()
        self.functions.append(function.line + (tuple(function.block), line[1]))

    def tree(self):
        """The tree of all functions that are read; None if the last one has not ended."""
        if self.levels:
            return None
        return tuple(self.functions)
