"""The text of a program tree, and the program tree of a text."""

from quicktongue.errors import BadText, BadTree
from quicktongue.lines import line_of
from quicktongue.parts import Unreadable, counting
from quicktongue.treeparts import BRANCHES, TreeReader
from quicktongue.trees import is_tree

STEP = "  "


def read(text):
    """The program tree of a text; raises BadText with the number of the first line that cannot stand."""
    if not isinstance(text, str):
        raise BadText(0)
    reader = TreeReader()
    lines = text.split("\n")
    for number, line in enumerate(lines, start=1):
        try:
            read_line(reader, line)
        except Unreadable:
            raise BadText(number) from None
    tree = reader.tree()
    if tree is None:
        raise BadText(len(lines) + 1)
    return tree


def read_line(reader, line):
    """Tells a line to the reader, unless nothing of it counts; raises Unreadable."""
    counts = counting(line)
    inner = counts.lstrip(" ")
    if inner:
        reader.read_line(len(counts) - len(inner), line_of(inner))


def written(tree):
    """The text of a program tree."""
    if not is_tree(tree):
        raise BadTree(tree)
    lines = []
    for function in tree:
        lines.extend(function_lines(function))
    return "\n".join(lines)


def function_lines(function):
    """The lines of a function."""
    _, name, leads, softs, owns, block, gives = function
    first = "fun " + name + in_brackets(leads, softs)
    if owns:
        first = first + " own " + ", ".join(owns)
    last = "give " + ", ".join(term_texts(gives))
    return [first] + block_lines(block, STEP) + [STEP + last]


def in_brackets(leads, softs):
    """The leads and softs, which are texts already, with their brackets."""
    blank = " " if softs else ""
    return "(" + ", ".join(leads) + ";" + blank + ", ".join(softs) + ")"


def block_lines(block, indent):
    """The lines of a block with such an indent."""
    lines = []
    for command in block:
        lines.extend(command_lines(command, indent))
    return lines


def command_lines(command, indent):
    """The lines of a command with such an indent."""
    kind = command[0]
    if kind == "let":
        return [indent + "let " + command[1] + " = " + term_text(command[2])]
    if kind == "set":
        return [indent + "set " + ", ".join(command[1]) + " = " + term_text(command[2])]
    if kind == "each":
        first = "each " + command[1] + " as " + command[2] + ", " + command[3]
        return [indent + first] + block_lines(command[4], indent + STEP)
    lines = [indent + "when " + term_text(command[1])]
    for branch, block in zip(BRANCHES, command[2:]):
        if block:
            lines.append(indent + STEP + branch)
            lines.extend(block_lines(block, indent + STEP + STEP))
    return lines


def term_texts(terms):
    """The list of the texts of terms."""
    return [term_text(term) for term in terms]


def term_text(term):
    """The text of a term."""
    kind = term[0]
    if kind == "name":
        return term[1]
    if kind == "word":
        return "\"" + term[1] + "\""
    if kind == "put":
        return term_text(term[1]) + " + " + term[2]
    if kind == "call":
        return term[1] + in_brackets(term_texts(term[2]), term_texts(term[3]))
    inner = term_text(term[1])
    # A cut takes the shortest term behind it, so a put needs brackets.
    if term[1][0] == "put":
        return "cut (" + inner + ")"
    return "cut " + inner
