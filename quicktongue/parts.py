"""The parts of a line of a text.

Each part is a string: a name or one of the kept words; a word with its two
signs; one of the signs ( ) , ; =. Two parts that are only right together are
kept as one: a name and the bracket behind it, as "f(", and a plus sign and the
letter behind it, as "+0" or "+1".
"""

from quicktongue.trees import KEPT_WORDS, SIGNS, is_name, is_word


class Unreadable(Exception):
    """A line, or a part of it, that cannot stand where it stands."""


def counting(line):
    """What counts of a line: all before a remark, without blanks at the end."""
    return line.partition("#")[0].rstrip(" ")


def parts_of(text):
    """The list of the parts of what counts of a line; raises Unreadable."""
    parts = []
    at = 0
    while at < len(text):
        end = end_of_piece(text, at)
        add_piece(parts, text[at:end])
        at = end
    if "+" in parts:
        raise Unreadable("a plus sign has no letter behind it")
    return parts


def end_of_piece(text, at):
    """The position behind the longest piece that begins at a position."""
    if text[at] == "\"":
        end = text.find("\"", at + 1)
        return len(text) if end < 0 else end + 1
    end = at
    while end < len(text) and text[end] in SIGNS:
        end += 1
    return max(end, at + 1)


def add_piece(parts, piece):
    """Adds a piece of a line to its parts, perhaps as the end of the last one."""
    before = parts[-1] if parts else ""
    if piece == " ":
        return
    if before == "+" and piece in ("0", "1"):
        parts[-1] = "+" + piece
    elif piece == "(" and is_name(before):
        parts[-1] = before + "("
    elif piece in ("(", ")", ",", ";", "=", "+") or is_name(piece) or piece in KEPT_WORDS or is_quoted(piece):
        parts.append(piece)
    else:
        raise Unreadable("there is no such part")


def is_quoted(part):
    """Whether a part is a word with its two signs."""
    return len(part) > 1 and part[0] == "\"" and part[-1] == "\"" and is_word(part[1:-1])


def is_head(part):
    """Whether a part is a name with the bracket behind it."""
    return len(part) > 1 and part[-1] == "("
