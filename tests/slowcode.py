"""Other, slower ways to the same answers about code, made as directly from the words of the document as they can be."""

import re

from quicktongue.trees import is_word
from tests.slow import Poly, slow_put_in

ORDER = ("shape", "register", "call", "level", "twice", "unset")


# Units

def slow_is_reg(thing):
    return (type(thing) is tuple and len(thing) == 2 and type(thing[0]) is str and thing[0] in ("l", "s")
            and slow_whole(thing[1]))


def slow_whole(thing):
    return type(thing) is int and thing >= 0


def slow_regs(thing):
    return type(thing) is tuple and all(slow_is_reg(part) for part in thing)


def slow_is_row(thing):
    if type(thing) is not tuple or not thing or type(thing[0]) is not str:
        return False
    kind, rest = thing[0], thing[1:]
    if kind == "word":
        return len(rest) == 2 and slow_is_reg(rest[0]) and is_word(rest[1])
    if kind in ("move", "cut"):
        return len(rest) == 2 and slow_regs(rest)
    if kind == "put":
        return len(rest) == 3 and slow_regs(rest[:2]) and type(rest[2]) is str and rest[2] in ("0", "1")
    if kind == "call":
        return len(rest) == 4 and type(rest[0]) is int and all(slow_regs(part) for part in rest[1:])
    if kind == "when":
        return len(rest) == 1 and slow_regs(rest)
    if kind == "each":
        return len(rest) == 3 and slow_regs(rest)
    if kind == "give":
        return len(rest) == 1 and slow_regs(rest[0]) and rest[0] != ()
    return kind in ("zero", "one", "end") and rest == ()


def slow_is_unit(thing):
    if type(thing) is not tuple or len(thing) != 3 or any(type(part) is not tuple for part in thing):
        return False
    name = re.compile(r"(?!(fun|own|let|set|when|none|zero|one|each|as|give|cut)$)[a-z][a-z0-9_]{0,19}")
    for need in thing[0]:
        if type(need) is not tuple or len(need) != 4 or type(need[0]) is not str or not name.fullmatch(need[0]):
            return False
        if not all(slow_whole(part) for part in need[1:]) or need[3] == 0:
            return False
    for code in thing[1]:
        if type(code) is not tuple or len(code) != 5 or not all(slow_whole(part) for part in code[:4]):
            return False
        if not (code[0] <= code[2] and code[1] <= code[3] and type(code[4]) is tuple):
            return False
        if not all(slow_is_row(row) for row in code[4]):
            return False
    for show in thing[2]:
        if type(show) is not tuple or len(show) != 2 or type(show[0]) is not str or not name.fullmatch(show[0]):
            return False
        if not slow_whole(show[1]) or show[1] >= len(thing[1]):
            return False
    for part in (thing[0], thing[2]):
        if len({item[0] for item in part}) < len(part):
            return False
    return True


# Shape, and what is set ahead

SIGNS = {"when": "w", "zero": "z", "one": "o", "end": "e", "each": "r", "give": "g"}


def slow_shape(rows):
    """The position of the fault of shape, None if the shape is right."""
    for many in range(1, len(rows) + 1):
        if not slow_can_begin(rows[:many]):
            return many - 1
    return None if rows and rows[-1][0] == "give" else len(rows)


def slow_can_begin(rows):
    """Whether rows of right shape begin with some rows: found by taking out whole rounds and branches."""
    text = "".join(SIGNS.get(row[0], "x") for row in rows)
    before = None
    while text != before:
        before = text
        text = re.sub(r"wx*zx*ox*e|rx*e", "x", text)
    return re.fullmatch(r"(x|r|wx*zx*o|wx*z|w)*|x*g", text) is not None


def slow_tree(rows):
    """The rows of right shape as a list of (position, row, sequences within)."""
    nodes, at = slow_sequence(rows, 0)
    assert at == len(rows)
    return nodes


def slow_sequence(rows, at):
    nodes = []
    while at < len(rows) and rows[at][0] not in ("zero", "one", "end"):
        node = (at, rows[at], [], [])
        nodes.append(node)
        for _ in range({"when": 3, "each": 1}.get(rows[at][0], 0)):
            inner, at = slow_sequence(rows, at + 1)
            node[2].append(inner)
            node[3].append(at)
        at += 1
    return nodes, at


def slow_writes(row):
    return {"word": row[1:2], "move": row[1:2], "put": row[1:2], "cut": row[1:2], "call": row[4:5] and row[4],
            "each": row[2:4]}.get(row[0], ())


def slow_reads(row):
    if row[0] == "call":
        return row[2] + row[3]
    return {"move": row[2:], "put": row[2:3], "cut": row[2:], "when": row[1:], "each": row[1:2],
            "give": row[1] if row[0] == "give" else ()}.get(row[0], ())


def slow_all_written(nodes):
    written = set()
    for _, row, inner, _ in nodes:
        written |= set(slow_writes(row))
        for part in inner:
            written |= slow_all_written(part)
    return written


def slow_ahead(code):
    """The dict of the set of the leading registers that are set ahead of each row."""
    ahead = {}
    slow_ahead_in(slow_tree(code[4]), {("l", at) for at in range(code[0])}, ahead)
    return ahead


def slow_ahead_in(nodes, known, ahead):
    for at, row, inner, closers in nodes:
        ahead[at] = known
        if row[0] == "when":
            ends = [slow_ahead_in(part, known, ahead) for part in inner]
            for closer, end in zip(closers, ends):
                ahead[closer] = end
            known = ends[0] & ends[1] & ends[2]
        elif row[0] == "each":
            left = known - slow_all_written(inner[0]) - set(row[2:])
            begun = left | {reg for reg in row[2:] if reg[0] == "l"}
            ahead[closers[0]] = slow_ahead_in(inner[0], begun, ahead)
            known = left
        else:
            known = known | {reg for reg in slow_writes(row) if reg[0] == "l"}
    return known


# Faults

def slow_named(row):
    regs = []
    for part in row[1:]:
        if slow_is_reg(part):
            regs.append(part)
        elif type(part) is tuple:
            regs.extend(part)
    return regs


def slow_unit_faults(unit):
    """The list of all faults, in the order in which they count. Those behind a fault of shape may be left out."""
    faults = []
    numbers = [need[1:] for need in unit[0]]
    for i, code in enumerate(unit[1]):
        shape = slow_shape(code[4])
        if shape is not None:
            faults.append((i, shape, "shape"))
            return faults
        ahead = slow_ahead((min(code[0], 50),) + code[1:])
        for at, row in enumerate(code[4]):
            faults.extend((i, at, word) for word in ORDER if slow_has_fault(word, row, code, numbers, ahead[at]))
        numbers.append((code[0], code[1], len(code[4][-1][1])))
    return faults


def slow_has_fault(word, row, code, numbers, ahead):
    if word == "register":
        return any(number >= (code[2] if kind == "l" else code[3]) for kind, number in slow_named(row))
    if word == "call" and row[0] == "call":
        if row[1] < 0 or row[1] >= len(numbers):
            return True
        return [len(part) for part in row[2:]] != list(numbers[row[1]]) or len(set(row[4])) < len(row[4])
    if word == "level":
        must = {"each": list(row[1:]), "call": list(row[2]) if row[0] == "call" else []}.get(row[0], [])
        if row[0] in ("move", "put", "cut") and row[1][0] == "l":
            must = [row[2]]
        if row[0] == "call" and "l" in [out[0] for out in row[4]]:
            must += row[3]
        return "s" in [reg[0] for reg in must]
    if word == "twice":
        return row[0] == "each" and row[2] == row[3]
    if word == "unset":
        return any(reg[0] == "l" and reg not in ahead and not (reg[1] < code[0] and reg[1] >= 50)
                   for reg in slow_reads(row))
    return False


# Bounds

def slow_code_pairs(unit):
    """The pairs (q, p) of all codes."""
    pairs = []
    for code in unit[1]:
        k = code[0]
        one = Poly({(0,) * k: 1})
        sizes = {("l", at): Poly({tuple(int(j == at) for j in range(k)): 1}) for at in range(k)}
        q, p, _ = slow_pair_of(slow_tree(code[4]), sizes, one, pairs)
        pairs.append((q.tuple(), p.tuple()))
    return tuple(pairs)


def slow_greatest(polys):
    total = Poly()
    for poly in polys:
        total = total | poly
    return total


def slow_pair_of(nodes, sizes, one, pairs):
    """q, p and the sizes behind a sequence of rows."""
    sizes = dict(sizes)
    q, p = Poly(), Poly()

    def size(reg):
        return sizes[reg] if reg[0] == "l" else Poly()

    def constant(number):
        return Poly({e: number for e in one})

    for _, row, inner, _ in nodes:
        kind = row[0]
        p += one
        written = None
        if kind == "word":
            written = constant(len(row[2]))
        elif kind in ("move", "cut"):
            written = size(row[2])
        elif kind == "put":
            written = size(row[2]) + one
        elif kind == "call":
            parts = [size(reg) for reg in row[2]]
            written = slow_put_in(pairs[row[1]][0], one, parts) + slow_greatest(size(reg) for reg in row[3])
            p += slow_put_in(pairs[row[1]][1], one, parts)
        elif kind == "give":
            q += slow_greatest(size(reg) for reg in row[1])
        elif kind == "when":
            ends = [slow_pair_of(part, sizes, one, pairs) for part in inner]
            q += slow_greatest(end[0] for end in ends)
            p += slow_greatest(end[1] for end in ends)
            common = set(ends[0][2]) & set(ends[1][2]) & set(ends[2][2])
            sizes = {reg: slow_greatest(end[2][reg] for end in ends) for reg in common}
        elif kind == "each":
            gone = slow_all_written(inner[0]) | set(row[2:])
            length = size(row[1])
            sizes = {reg: sizes[reg] for reg in sizes if reg not in gone}
            more, cost, _ = slow_pair_of(inner[0], {**sizes, row[2]: length, row[3]: one}, one, pairs)
            q += length * more
            p += length * (one + cost)
        if written is not None:
            outs = slow_writes(row)
            if any(out[0] == "s" for out in outs):
                q += written
            sizes.update({out: written for out in outs if out[0] == "l"})
    return q, p, sizes


# The machine

def slow_walk(unit, f, leads, softs, outer=()):
    """Yields the standing before each row that is executed, and None for each turn; returns the outcomes."""
    code = unit[1][f]
    held = {("s", at): "" for at in range(code[3])}
    held.update({("l", at): word for at, word in enumerate(leads)})
    held.update({("s", at): word for at, word in enumerate(softs)})
    ahead = slow_ahead(code)
    rounds = []

    def frame(at):
        words = tuple(held[("l", k)] if ("l", k) in ahead[at] else None for k in range(code[2]))
        return (f, at, words, tuple(held[("s", k)] for k in range(code[3])), tuple(rounds))

    def sequence(nodes):
        for at, row, inner, _ in nodes:
            yield outer + (frame(at),)
            kind = row[0]
            if kind == "word":
                held[row[1]] = row[2]
            elif kind == "move":
                held[row[1]] = held[row[2]]
            elif kind == "put":
                held[row[1]] = held[row[2]] + row[3]
            elif kind == "cut":
                held[row[1]] = held[row[2]][:-1]
            elif kind == "when":
                yield from sequence(inner[{"": 0, "0": 1, "1": 2}[held[row[1]][-1:]]])
            elif kind == "call":
                words = yield from slow_walk(unit, row[1], [held[r] for r in row[2]], [held[r] for r in row[3]],
                                             outer + (frame(at),))
                held.update(zip(row[4], words))
            elif kind == "each":
                word = held[row[1]]
                for k in reversed(range(len(word))):
                    yield None
                    held[row[2]], held[row[3]] = word[:k], word[k]
                    rounds.append(word[:k])
                    yield from sequence(inner[0])
                    rounds.pop()
            else:
                return tuple(held[reg] for reg in row[1])
        return None

    return (yield from sequence(slow_tree(code[4])))


def slow_machine_run(unit, f, leads, softs, most=20000):
    """The list of the pairs (standing, count of the step behind it), ending with (("ended", words), 0)."""
    walk = slow_walk(unit, f, leads, softs)
    found = []
    while len(found) <= most:
        try:
            standing = next(walk)
        except StopIteration as end:
            return [tuple(pair) for pair in found] + [(("ended", end.value), 0)]
        if standing is None:
            found[-1][1] += 1
        else:
            found.append([standing, 1])
    return None


# Needed registers and sharing

def slow_ways(rows):
    """For each row, passed over or not, the list of the positions behind it, each with what is written on the way."""
    ways = {at: [(at + 1, ())] for at in range(len(rows))}

    def note(nodes):
        for at, row, inner, closers in nodes:
            if row[0] == "when":
                ways[at] = [(closer + 1, ()) for closer in [at] + closers[:2]]
                for closer in closers:
                    ways[closer] = [(closers[2] + 1, ())]
            elif row[0] == "each":
                ways[at] = [(at + 1, ()), (closers[0] + 1, ())]
                ways[closers[0]] = [(at + 1, row[2:]), (closers[0] + 1, ())]
            elif row[0] == "give":
                ways[at] = []
            for part in inner:
                note(part)

    note(slow_tree(rows))
    return ways


def slow_is_needed(rows, ways, at, reg):
    """Whether a register is needed behind a row: found by going all ways."""
    seen = set()
    waiting = [at]
    while waiting:
        for next_one, written in ways[waiting.pop()]:
            if next_one in seen or reg in written:
                continue
            row = rows[next_one]
            if reg in slow_reads(row):
                return True
            if reg not in slow_writes(row):
                seen.add(next_one)
                waiting.append(next_one)
    return False


def slow_needed_behind(code, at):
    """The ascending tuple of the registers that are needed behind a row."""
    ways = slow_ways(code[4])
    every = [("l", k) for k in range(code[2])] + [("s", k) for k in range(code[3])]
    return tuple(reg for reg in every if slow_is_needed(code[4], ways, at, reg))


def slow_clashes(unit, sharing):
    """The set of all certificates of clashes."""
    clashes = set()
    for f, code in enumerate(unit[1]):
        every = [("l", k) for k in range(code[2])] + [("s", k) for k in range(code[3])]
        arguments = [("l", k) for k in range(code[0])] + [("s", k) for k in range(code[1])]
        needed = {at: slow_needed_behind(code, at) for at in range(len(code[4]))}
        for r in every:
            for other in every:
                if r == other or r[0] != other[0]:
                    continue
                side = sharing[f][0 if r[0] == "l" else 1]
                if side[r[1]] != side[other[1]]:
                    continue
                for at, row in enumerate(code[4]):
                    if r in slow_writes(row) and (other in needed[at] or other in slow_writes(row)):
                        clashes.add(("clash", f, at, r, other))
                for one, two in ((r, other), (other, r)):
                    before = two in slow_reads(code[4][0]) or (
                        two in needed[0] and two not in slow_writes(code[4][0]))
                    if one in arguments and (two in arguments or two[0] == "s" and before):
                        clashes.add(("clash", f, -1, r, other))
    return clashes


# Plain compiling

def slow_plain_code(program, i):
    """The pair of the code function of the function at i, and of the homes of its rows."""
    _, _, leads, softs, owns, block, gives = program[i]
    numbers = {function[1]: at for at, function in enumerate(program)}
    register = {name: ("l", k) for k, name in enumerate(leads)}
    register.update({name: ("s", k) for k, name in enumerate(softs + owns)})
    many = [len(leads), len(softs + owns)]
    rows = []

    def fresh(level):
        many["ls".index(level)] += 1
        return (level, many["ls".index(level)] - 1)

    def term(t, level, home):
        if t[0] == "name":
            return register[t[1]]
        if t[0] == "word":
            parts = (t[1],)
        elif t[0] == "put":
            parts = (term(t[1], level, home), t[2])
        elif t[0] == "cut":
            parts = (term(t[1], level, home),)
        else:
            before = [term(x, "l", home) for x in t[2]]
            after = [term(x, level, home) for x in t[3]]
            out = fresh(level)
            rows.append((("call", numbers[t[1]], tuple(before), tuple(after), (out,)), home))
            return out
        out = fresh(level)
        rows.append(((t[0], out) + parts, home))
        return out

    def commands(block, path):
        for k, command in enumerate(block):
            one(command, path + (k,))

    def one(c, home):
        if c[0] == "let":
            r = term(c[2], "l", home)
            register[c[1]] = fresh("l")
            rows.append((("move", register[c[1]], r), home))
        elif c[0] == "set" and len(c[1]) == 1:
            r = term(c[2], "s", home)
            rows.append((("move", register[c[1][0]], r), home))
        elif c[0] == "set":
            before = [term(x, "l", home) for x in c[2][2]]
            after = [term(x, "s", home) for x in c[2][3]]
            outs = tuple(register[name] for name in c[1])
            rows.append((("call", numbers[c[2][1]], tuple(before), tuple(after), outs), home))
        elif c[0] == "when":
            r = term(c[1], "s", home)
            rows.append((("when", r), home))
            commands(c[2], home + (2,))
            rows.append((("zero",), home))
            commands(c[3], home + (3,))
            rows.append((("one",), home))
            commands(c[4], home + (4,))
            rows.append((("end",), home))
        else:
            register[c[2]] = fresh("l")
            register[c[3]] = fresh("l")
            rows.append((("each", register[c[1]], register[c[2]], register[c[3]]), home))
            commands(c[4], home + (4,))
            rows.append((("end",), home))

    commands(block, (i, 5))
    regs = [term(t, "s", (i, 6)) for t in gives]
    rows.append((("give", tuple(regs)), (i, 6)))
    code = (len(leads), len(softs), many[0], many[1], tuple(row for row, _ in rows))
    return code, tuple(home for _, home in rows)
