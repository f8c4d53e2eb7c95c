"""Units of code: from short texts, and at random."""

import random
import re


def l(number):
    return ("l", number)


def s(number):
    return ("s", number)


def rows_of(text):
    """Rows from their words, with semicolons between them: `-` is the empty word, brackets stand around tuples."""
    return tuple(row_of(part) for part in text.split(";"))


def row_of(text):
    kind, *parts = re.findall(r"\(.*?\)|\S+", text)
    return (kind,) + tuple(part_of(kind, at, part) for at, part in enumerate(parts))


def part_of(kind, at, part):
    if part[0] == "(":
        return tuple(part_of("move", 0, reg) for reg in part[1:-1].split())
    if kind == "word" and at == 1:
        return part.replace("-", "")
    if part[0] in "ls":
        return (part[0], int(part[1:]))
    return int(part) if kind == "call" else part


def code_of(leads, softs, wide_leads, wide_softs, text):
    """A code function from such a text of its rows."""
    return (leads, softs, wide_leads, wide_softs, rows_of(text))


def unit_of_codes(*codes, needs=()):
    """A unit that shows its codes as f0, f1 and so on."""
    return (needs, codes, tuple(("f" + str(at), at) for at in range(len(codes))))


class UnitMaker:
    """Makes units that are taken: what a round may write is chosen before its rows are made."""

    def __init__(self, seed, whole=True):
        self.rng = random.Random(seed)
        self.whole = whole
        self.callees = []

    def unit(self):
        needs = ()
        if not self.whole:
            needs = tuple(("n" + str(k), self.rng.randrange(3), self.rng.randrange(3), self.rng.randrange(1, 3))
                          for k in range(self.rng.randrange(3)))
        self.callees = [need[1:] for need in needs]
        codes = []
        for _ in range(self.rng.randrange(1, 4)):
            code = self.code()
            codes.append(code)
            self.callees.append((code[0], code[1], len(code[4][-1][1])))
        shown = [at for at in range(len(codes)) if self.rng.random() < 0.7]
        return needs, tuple(codes), tuple(("f" + str(k), at) for k, at in enumerate(shown))

    def code(self):
        leads, softs = self.rng.randrange(3), self.rng.randrange(3)
        self.wide_leads = leads + self.rng.randrange(1, 5)
        self.wide_softs = softs + self.rng.randrange(1, 4)
        self.left = 14
        known = {l(at) for at in range(leads)}
        rows = self.rows(known, {l(at) for at in range(self.wide_leads)}, 3)
        give = tuple(self.reg(known, "s") for _ in range(self.rng.choice((1, 1, 2))))
        return leads, softs, self.wide_leads, self.wide_softs, tuple(rows) + (("give", give),)

    def pick(self, regs):
        return self.rng.choice(sorted(regs))

    def softs(self):
        return {s(at) for at in range(self.wide_softs)}

    def reg(self, known, kind):
        """A register that can be read where one of the kind is written."""
        return self.pick(known if kind == "l" else known | self.softs())

    def rows(self, known, free, depth):
        """Rows that read what is known and write what is free; known is changed to what is set behind them."""
        rows = []
        while self.left > 0 and self.rng.random() < 0.75:
            self.left -= 1
            rows.extend(self.row(known, free, depth))
        return rows

    def row(self, known, free, depth):
        kind = self.rng.choice(("word", "move", "put", "cut", "call", "when", "each") if depth else (
            "word", "move", "put", "cut", "call"))
        if kind == "each" and known and len(free) > 1:
            return self.each(known, free, depth)
        if kind == "when" and (known or self.wide_softs):
            rows = [("when", self.reg(known, "s"))]
            ends = []
            for last in ("zero", "one", "end"):
                end = set(known)
                rows += self.rows(end, free, depth - 1) + [(last,)]
                ends.append(end)
            known.clear()
            known |= ends[0] & ends[1] & ends[2]
            return rows
        if kind == "call" and self.callees:
            return self.call(known, free)
        out = self.pick(free | self.softs())
        row = ("word", out, "".join(self.rng.choice("01") for _ in range(self.rng.randrange(3))))
        if kind in ("move", "put", "cut") and (known or out[0] == "s"):
            row = (kind, out, self.reg(known, out[0])) + ((self.rng.choice("01"),) if kind == "put" else ())
        known |= {out} - self.softs()
        return [row]

    def call(self, known, free):
        number = self.rng.randrange(len(self.callees))
        leads, softs, results = self.callees[number]
        outs = sorted(free | self.softs())
        if results > len(outs) or leads and not known:
            return []
        outs = tuple(self.rng.sample(outs, results))
        kind = "l" if any(out[0] == "l" for out in outs) else "s"
        if kind == "l" and softs and not known:
            return []
        row = ("call", number, tuple(self.reg(known, "l") for _ in range(leads)),
               tuple(self.reg(known, kind) for _ in range(softs)), outs)
        known |= set(outs) - self.softs()
        return [row]

    def each(self, known, free, depth):
        x = self.pick(known)
        rest, letter = self.rng.sample(sorted(free), 2)
        kept = {reg for reg in known if self.rng.random() < 0.7} - {rest, letter}
        inner = kept | {rest, letter}
        rows = self.rows(inner, free - kept, depth - 1)
        known &= kept
        return [("each", x, rest, letter)] + rows + [("end",)]


def word(rng, most):
    """A word of at most so many letters."""
    return "".join(rng.choice("01") for _ in range(rng.randrange(most + 1)))


def inputs(rng, code, most):
    """Leading and soft arguments for a code function."""
    return tuple(word(rng, most) for _ in range(code[0])), tuple(word(rng, most) for _ in range(code[1]))
