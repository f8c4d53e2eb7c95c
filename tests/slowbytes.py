"""Other, slower ways to the same answers about bytes, texts and links of units."""

import re
from itertools import product

from tests.slowcode import slow_is_unit
from tests.support import KEPT_WORDS

SIGNS = "abcdefghijklmnopqrstuvwxyz0123456789_"
NAME = re.compile("[a-z][a-z0-9_]{0,19}")
KINDS = {"word": 1, "move": 2, "put": 3, "cut": 4, "call": 5, "when": 6, "zero": 7, "one": 8, "end": 9, "each": 10, "give": 11}


# Bytes

def slow_bytes(unit):
    """The bytes of a unit."""
    needs, codes, shows = unit
    out = [81, 84, len(needs)]
    for name, leads, softs, results in needs:
        out += [len(name), *map(ord, name), leads, softs, results]
    out.append(len(codes))
    for leads, softs, wide_leads, wide_softs, rows in codes:
        out += [leads, softs, wide_leads, wide_softs]
        for row in rows:
            out += slow_row_bytes(row)
    out.append(len(shows))
    for name, position in shows:
        out += [len(name), *map(ord, name), position]
    return tuple(out)


def slow_row_bytes(row):
    out = [KINDS[row[0]]]
    for part in row[1:]:
        if type(part) is int:
            out.append(part)
        elif type(part) is str:
            out += [int(part)] if row[0] == "put" else [len(part), *map(int, part)]
        elif len(part) == 2 and part[0] in ("l", "s"):
            out += slow_reg_bytes([part])
        else:
            out += [len(part)] + slow_reg_bytes(part)
    return out


def slow_reg_bytes(regs):
    return [{"l": 0, "s": 128}[kind] + number for kind, number in regs]


def slow_begun(begin):
    """A unit with one "give" in each function, at its end, whose bytes begin with some bytes; None if there is none."""
    left = list(begin)

    def take(filler):
        return left.pop(0) if left else filler

    def name(taken):
        many = take(20)
        given = "".join(map(chr, left[:many]))
        del left[:many]
        return slow_name(given, many, taken)

    def regs(least):
        return tuple(reg(take(0)) for _ in range(take(least)))

    def reg(byte):
        return ("l", byte) if byte < 128 else ("s", byte - 128)

    def row():
        kind = {number: kind for kind, number in KINDS.items()}.get(take(11), "none")
        if kind == "word":
            return (kind, reg(take(0)), "".join(str(take(0)) for _ in range(take(0))))
        if kind == "put":
            return (kind, reg(take(0)), reg(take(0)), str(take(0)))
        if kind == "call":
            return (kind, take(0), regs(0), regs(0), regs(0))
        if kind == "give":
            return (kind, regs(1))
        return (kind,) + tuple(reg(take(0)) for _ in range({"move": 2, "cut": 2, "when": 1, "each": 3}.get(kind, 0)))

    def code():
        leads, softs = take(0), take(0)
        wide = (take(leads), take(softs))
        rows = [row()]
        while rows[-1][0] not in ("give", "none"):
            rows.append(row())
        return (leads, softs) + wide + (tuple(rows),)

    take(81), take(84)
    needs, codes, shows = [], [], []
    for _ in range(take(0)):
        needs.append((name([need[0] for need in needs]), take(0), take(0), take(1)))
    for _ in range(take(0)):
        codes.append(code())
    for _ in range(take(0)):
        shows.append((name([show[0] for show in shows]), take(0)))
    unit = (tuple(needs), tuple(codes), tuple(shows))
    # Whatever was read above, the unit counts only if its bytes begin so.
    if not slow_is_unit(unit) or not all(slow_is_given(code[4]) for code in codes):
        return None
    return unit if slow_bytes(unit)[:len(begin)] == tuple(begin) else None


def slow_name(given, many, taken):
    """A name of so many signs that begins with those given and is not taken; None if there is none."""
    missing = many - len(given)
    for last in product(SIGNS, repeat=max(0, min(2, missing))):
        name = given + "a" * (missing - len(last)) + "".join(last)
        if NAME.fullmatch(name) and name not in KEPT_WORDS and name not in taken:
            return name
    return None


def slow_is_given(rows):
    return [at for at, row in enumerate(rows) if row[0] == "give"] == [len(rows) - 1]


def slow_bytes_at(code):
    """The number that BadBytes tells of bytes, None if they are those of a unit."""
    unit = slow_begun(code)
    if unit is not None:
        return None if slow_bytes(unit) == code else len(code)
    # If some bytes begin those of a unit, fewer of them do, too: so the number can be found by halving.
    right, wrong = 0, len(code)
    while wrong - right > 1:
        middle = (right + wrong) // 2
        if slow_begun(code[:middle]) is None:
            wrong = middle
        else:
            right = middle
    return right


# Texts

WHOLE = "(?:0|[1-9][0-9]*)"
REG = "[ls]" + WHOLE
REGS = r"\((?:%s(?:, %s)*)?\)" % (REG, REG)
LINES = {
    "needs": "([a-z][a-z0-9_]*) (W) (W) ([1-9][0-9]*)", "code": "(W) (W) (W) (W)", "show": "([a-z][a-z0-9_]*) (W)",
    "word": '(R) "([01]*)"', "move": "(R) (R)", "put": "(R) (R) ([01])", "cut": "(R) (R)",
    "call": "(0|-?[1-9][0-9]*) (X) (X) (X)", "when": "(R)", "zero": "", "one": "", "end": "", "each": "(R) (R) (R)", "give": "(X)",
}


def slow_unit_of_lines(lines):
    """The unit whose text has these lines, None if there is none."""
    needs, codes, shows = [], [], []
    order = ""
    for line in lines:
        kind, _, rest = line.partition(" ")
        pattern = LINES.get(kind, "X" * 9).replace("W", WHOLE).replace("R", REG).replace("X", REGS)
        match = re.fullmatch(pattern, rest)
        if not match or line != (kind + " " + rest if pattern else kind):
            return None
        parts = tuple(slow_part(kind, at, text) for at, text in enumerate(match.groups()))
        order += {"needs": "n", "code": "c", "show": "s"}.get(kind, "r")
        if kind == "needs":
            needs.append(parts)
        elif kind == "code":
            codes.append(parts + ([],))
        elif kind == "show":
            shows.append(parts)
        elif codes:
            codes[-1][4].append((kind,) + parts)
    unit = (tuple(needs), tuple(code[:4] + (tuple(code[4]),) for code in codes), tuple(shows))
    return unit if re.fullmatch("n*(cr*)*s*", order) and slow_is_unit(unit) else None


def slow_part(kind, at, text):
    if re.fullmatch(REG, text) and not (kind in ("needs", "show") and at == 0):
        return (text[0], int(text[1:]))
    if text[:1] == "(":
        return tuple((reg[0], int(reg[1:])) for reg in re.findall(REG, text))
    if kind in ("word", "put") or (kind in ("needs", "show") and at == 0):
        return text
    return int(text)


def slow_unit_text_at(text):
    """The number that BadText tells of a text, None if it is that of a unit."""
    lines = text.split("\n") if text else []
    for at in range(len(lines)):
        if slow_unit_of_lines(lines[:at + 1]) is None:
            return at + 1
    return None


# Links

def slow_link_faults(units):
    """The set of all certificates that units cannot be linked."""
    faults = set()
    for u, (needs, _, shows) in enumerate(units):
        for k, (name, *form) in enumerate(needs):
            found = [slow_form(other, position) for other in units[:u] for shown, position in other[2] if shown == name]
            if not found:
                faults.add(("lacks", u, k))
            if [other for other in found if other != form]:
                faults.add(("unlike", u, k))
        for name, _ in shows:
            if name in [shown for other in units[:u] for shown, _ in other[2]]:
                faults.add(("twice", u, name))
    return faults


def slow_form(unit, position):
    code = unit[1][position]
    return [code[0], code[1], len(code[4][-1][1])]


def slow_called(units, u, number):
    """The unit and the position that a number called in a unit leads to."""
    needs = units[u][0]
    if number >= len(needs):
        return u, number - len(needs)
    return [(at, position) for at in range(u) for name, position in units[at][2] if name == needs[number][0]][0]


def slow_linked_run(units, u, position, leads, softs):
    """The pair (outcomes, steps) of a function of units that can be linked, without linking them."""
    from tests.slowcode import slow_tree

    rows = units[u][1][position][4]
    held = {}
    held.update({("l", at): word for at, word in enumerate(leads)})
    held.update({("s", at): word for at, word in enumerate(softs)})
    steps = 0
    outcomes = None

    def word_in(reg):
        return held[reg] if reg[0] == "l" else held.get(reg, "")

    def sequence(nodes):
        nonlocal steps, outcomes
        for _, row, inner, _ in nodes:
            steps += 1
            if row[0] == "word":
                held[row[1]] = row[2]
            elif row[0] == "move":
                held[row[1]] = word_in(row[2])
            elif row[0] == "put":
                held[row[1]] = word_in(row[2]) + row[3]
            elif row[0] == "cut":
                held[row[1]] = word_in(row[2])[:-1]
            elif row[0] == "when":
                sequence(inner[{"": 0, "0": 1, "1": 2}[word_in(row[1])[-1:]]])
            elif row[0] == "call":
                words, more = slow_linked_run(units, *slow_called(units, u, row[1]), [word_in(reg) for reg in row[2]],
                                              [word_in(reg) for reg in row[3]])
                held.update(zip(row[4], words))
                steps += more
            elif row[0] == "each":
                word = word_in(row[1])
                for at in reversed(range(len(word))):
                    steps += 1
                    held[row[2]], held[row[3]] = word[:at], word[at]
                    sequence(inner[0])
            else:
                outcomes = tuple(word_in(reg) for reg in row[1])

    sequence(slow_tree(rows))
    return outcomes, steps
