"""The lines of the texts of units: writing them, and reading them one after the other."""

from quicktongue.parts import Unreadable, is_quoted
from quicktongue.rows import ROW_PARTS, is_row
from quicktongue.units import fits_code, fits_need, fits_show

# The kinds of the parts of those lines that are no rows.
OTHER_PARTS = {
    "needs": ("name", "number", "number", "number"),
    "code": ("number", "number", "number", "number"),
    "show": ("name", "number"),
}
FIGURES = "0123456789"


def parts_in(kind):
    """The kinds of the parts of a line that begins with a word; None if no line begins so."""
    return OTHER_PARTS.get(kind, ROW_PARTS.get(kind))


def line_of_parts(kind, parts):
    """The line that begins with a word and has such parts."""
    texts = [part_text(part_kind, part) for part_kind, part in zip(parts_in(kind), parts)]
    return " ".join([kind] + texts)


def part_text(kind, part):
    """The text of a part of a line, which is of such a kind."""
    if kind == "reg":
        return part[0] + str(part[1])
    if kind == "word":
        return "\"" + part + "\""
    if kind == "number":
        return str(part)
    if kind in ("regs", "some"):
        return "(" + ", ".join([part_text("reg", reg) for reg in part]) + ")"
    return part


def pieces_of(line):
    """The list of the pieces of a line between its blanks; those within brackets part nothing."""
    pieces = []
    inside = False
    for piece in line.split(" "):
        if inside:
            pieces[-1] = pieces[-1] + " " + piece
        else:
            pieces.append(piece)
        inside = pieces[-1][:1] == "(" and ")" not in pieces[-1]
    return pieces


def part_in(kind, piece):
    """The part of such a kind that a piece of a line is, if it is one; raises Unreadable."""
    if kind == "reg":
        return (piece[:1], number_in(piece[1:]))
    if kind == "word" and is_quoted(piece):
        return piece[1:-1]
    if kind == "number":
        return number_in(piece)
    if kind in ("regs", "some"):
        inner = piece[1:-1]
        return tuple([part_in("reg", part) for part in inner.split(", ")]) if inner else ()
    return piece


def number_in(piece):
    """The integer that some signs are; raises Unreadable."""
    figures = piece[1:] if piece[:1] == "-" else piece
    if figures == "" or figures.strip(FIGURES) != "":
        raise Unreadable("this is no number")
    return int(piece)


class UnitReader:
    """Reads a unit line by line."""

    def __init__(self):
        self.needed = []
        self.codes = []
        self.shown = []

    def read_line(self, line):
        """Goes on by one line; raises Unreadable if it follows the lines before it in no text of a unit."""
        pieces = pieces_of(line)
        kind = pieces[0]
        kinds = parts_in(kind)
        if kinds is None or len(pieces) != len(kinds) + 1:
            raise Unreadable("no line is so")
        parts = tuple([part_in(part_kind, piece) for part_kind, piece in zip(kinds, pieces[1:])])
        # There is one way alone to write the parts.
        if not self.can_add(kind, parts) or line_of_parts(kind, parts) != line:
            raise Unreadable("no such line follows here")
        self.add_parts(kind, parts)

    def can_add(self, kind, parts):
        """Whether a line that begins with a word and has such parts can follow."""
        if kind == "show":
            return fits_show(parts, len(self.codes)) and parts[0] not in [show[0] for show in self.shown]
        if self.shown:
            return False
        if kind == "needs":
            return not self.codes and fits_need(parts) and parts[0] not in [need[0] for need in self.needed]
        if kind == "code":
            return fits_code(parts + ((),))
        return len(self.codes) > 0 and is_row((kind,) + parts)

    def add_parts(self, kind, parts):
        """Adds what a line tells."""
        if kind == "show":
            self.shown.append(parts)
        elif kind == "needs":
            self.needed.append(parts)
        elif kind == "code":
            self.codes.append((parts, []))
        else:
            self.codes[-1][1].append((kind,) + parts)

    def read_unit(self):
        """The unit that the lines tell: behind each line it is a whole one."""
        codes = tuple([head + (tuple(rows),) for head, rows in self.codes])
        return (tuple(self.needed), codes, tuple(self.shown))
