"""Other, slower ways to the same answers, made as directly from the words of the document as they can be."""

import re
from itertools import product

from tests.support import KEPT_WORDS, at_path

PART = re.compile(r'"[01]*"|[a-z][a-z0-9_]*|\+ *[01](?![a-z0-9_])|[(),;=]')


# Texts

def slow_read(text):
    """The tree of a text, None if it has none: found from the whole text at once."""
    lines = []
    for line in text.split("\n"):
        line = line.split("#")[0]
        if line.strip(" "):
            lines.append((len(line) - len(line.lstrip(" ")), line.strip(" ")))
    functions = []
    try:
        while lines:
            function, lines = slow_function(lines)
            functions.append(function)
    except (ValueError, IndexError):
        return None
    return tuple(functions)


def slow_parts(line):
    parts = []
    while line:
        match = PART.match(line)
        if not match:
            raise ValueError(line)
        part = match.group().replace(" ", "")
        if part[0].islower() and len(part) > 20:
            raise ValueError(part)
        parts.append(part)
        line = line[match.end():].lstrip(" ")
    return parts


def need(condition):
    if not condition:
        raise ValueError


def slow_name(part):
    need(part[0].islower() and part not in KEPT_WORDS)
    return part


def slow_list(parts, item, ends):
    """Items with commas between them, none if the list ends at once."""
    items = []
    if parts and parts[0] in ends:
        return tuple(items), parts
    while True:
        one, parts = item(parts)
        items.append(one)
        if not parts or parts[0] != ",":
            return tuple(items), parts
        parts = parts[1:]


def slow_name_item(parts):
    return slow_name(parts[0]), parts[1:]


def slow_brackets(parts, item):
    need(parts[0] == "(")
    leads, parts = slow_list(parts[1:], item, (";",))
    need(parts[0] == ";")
    softs, parts = slow_list(parts[1:], item, (")",))
    need(parts[0] == ")")
    return leads, softs, parts[1:]


def slow_small(parts):
    """A term that is no put, unless it has brackets."""
    if parts[0] == "cut":
        term, parts = slow_small(parts[1:])
        return ("cut", term), parts
    if parts[0] == "(":
        term, parts = slow_term(parts[1:])
        need(parts[0] == ")")
        return term, parts[1:]
    if parts[0][0] == '"':
        return ("word", parts[0][1:-1]), parts[1:]
    name = slow_name(parts[0])
    if parts[1:2] == ["("]:
        leads, softs, parts = slow_brackets(parts[1:], slow_term)
        return ("call", name, leads, softs), parts
    return ("name", name), parts[1:]


def slow_term(parts):
    term, parts = slow_small(parts)
    while parts and parts[0][0] == "+":
        term, parts = ("put", term, parts[0][1]), parts[1:]
    return term, parts


def slow_only(parts, item):
    found, parts = item(parts)
    need(not parts)
    return found


def slow_some(parts, item):
    found, parts = slow_list(parts, item, ())
    need(not parts)
    return found


def slow_function(lines):
    need(lines[0][0] == 0)
    parts = slow_parts(lines[0][1])
    need(parts[0] == "fun")
    leads, softs, rest = slow_brackets(parts[2:], slow_name_item)
    owns = ()
    if rest:
        need(rest[0] == "own")
        owns = slow_some(rest[1:], slow_name_item)
    indent = lines[1][0]
    need(indent > 0)
    block, lines = slow_block(lines[1:], indent)
    need(lines[0][0] == indent)
    give = slow_parts(lines[0][1])
    need(give[0] == "give")
    return ("fun", slow_name(parts[1]), leads, softs, owns, block, slow_some(give[1:], slow_term)), lines[1:]


def slow_below(lines, indent):
    """The block headed by a line with such an indent that was just taken off the lines."""
    if not lines or lines[0][0] <= indent:
        return (), lines
    inner = lines[0][0]
    block, lines = slow_block(lines, inner)
    need(block)
    return block, lines


def slow_block(lines, indent):
    commands = []
    while lines and lines[0][0] == indent:
        parts = slow_parts(lines[0][1])
        if parts[0] == "give":
            break
        command, lines = slow_command(parts, lines[1:], indent)
        commands.append(command)
    need(not lines or lines[0][0] <= indent)
    return tuple(commands), lines


def slow_command(parts, lines, indent):
    if parts[0] == "let":
        need(parts[2] == "=")
        return ("let", slow_name(parts[1]), slow_only(parts[3:], slow_term)), lines
    if parts[0] == "set":
        names, rest = slow_list(parts[1:], slow_name_item, ())
        need(rest[0] == "=")
        return ("set", names, slow_only(rest[1:], slow_term)), lines
    if parts[0] == "each":
        need(len(parts) == 6 and parts[2] == "as" and parts[4] == ",")
        block, lines = slow_below(lines, indent)
        return ("each", slow_name(parts[1]), slow_name(parts[3]), slow_name(parts[5]), block), lines
    need(parts[0] == "when")
    term = slow_only(parts[1:], slow_term)
    blocks = []
    inner = lines[0][0] if lines else 0
    for branch in ("none", "zero", "one"):
        block = ()
        if inner > indent and lines and lines[0][0] == inner and slow_parts(lines[0][1]) == [branch]:
            block, lines = slow_below(lines[1:], inner)
        blocks.append(block)
    need(not lines or lines[0][0] <= indent)
    return ("when", term, *blocks), lines


# Levels

def slow_terms_in(term, path):
    """The pairs of the paths and terms of a term and those within it."""
    yield path, term
    if term[0] in ("put", "cut"):
        yield from slow_terms_in(term[1], path + (1,))
    if term[0] == "call":
        for side in (2, 3):
            for k, part in enumerate(term[side]):
                yield from slow_terms_in(part, path + (side, k))


def slow_commands(block, path):
    """The pairs of the paths and commands of a block and those within it."""
    for k, command in enumerate(block):
        yield path + (k,), command
        for side in {"when": (2, 3, 4), "each": (4,)}.get(command[0], ()):
            yield from slow_commands(command[side], path + (k, side))


def slow_outer_terms(tree, i):
    """The pairs of the paths and terms of a function that are within no other term."""
    for path, command in slow_commands(tree[i][5], (i, 5)):
        if command[0] != "each":
            side = 1 if command[0] == "when" else 2
            yield path + (side,), command[side]
    for k, give in enumerate(tree[i][6]):
        yield (i, 6, k), give


def slow_places(tree):
    """The paths of all terms and commands."""
    paths = []
    for i, function in enumerate(tree):
        paths.extend(path for path, _ in slow_commands(function[5], (i, 5)))
        for path, term in slow_outer_terms(tree, i):
            paths.extend(inner for inner, _ in slow_terms_in(term, path))
    return paths


def slow_scope(tree, path):
    """The sets of the leading and the soft names in scope at a path."""
    function = tree[path[0]]
    softs = set(function[3]) | set(function[4])
    leads = set(function[2])
    if path[1] == 6:
        leads |= {command[1] for command in function[5] if command[0] == "let"}
    here = path[:2]
    while path[1] == 5:
        k = path[len(here)]
        block = at_path(tree, here)
        leads |= {command[1] for command in block[:k] if command[0] == "let"}
        inner = path[:len(here) + 2]
        if len(path) < len(here) + 3 or (block[k][0], inner[-1]) not in (
                ("each", 4), ("when", 2), ("when", 3), ("when", 4)):
            break
        if block[k][0] == "each":
            leads |= {block[k][2], block[k][3]}
        here = inner
    return leads - softs, softs


def slow_faults(tree):
    """The set of all faults."""
    faults = set()
    first = {}
    for i, function in enumerate(tree):
        if function[1] in first:
            faults.add(("twice", (i, 1)))
        first.setdefault(function[1], i)
    for i in range(len(tree)):
        faults |= slow_own_faults(tree, i) | slow_command_faults(tree, i) | slow_term_faults(tree, i, first)
    return faults


def slow_own_faults(tree, i):
    named = [((i, side, k), name) for side in (2, 3, 4) for k, name in enumerate(tree[i][side])]
    for path, command in slow_commands(tree[i][5], (i, 5)):
        sides = {"let": (1,), "each": (2, 3)}.get(command[0], ())
        named.extend((path + (side,), command[side]) for side in sides)
    names = [name for _, name in named]
    return {("twice", path) for k, (path, name) in enumerate(named) if name in names[:k]}


def slow_command_faults(tree, i):
    faults = set()
    for path, command in slow_commands(tree[i][5], (i, 5)):
        leads, softs = slow_scope(tree, path)
        if command[0] == "each":
            if command[1] not in leads | softs:
                faults.add(("unknown", path + (1,)))
            if command[1] in softs:
                faults.add(("level", path + (1,), path + (1,)))
        if command[0] == "set":
            for k, name in enumerate(command[1]):
                here = path + (1, k)
                if name in command[1][:k]:
                    faults.add(("twice", here))
                if name not in leads | softs:
                    faults.add(("unknown", here))
                if name in leads:
                    faults.add(("level", here, here))
    return faults


def slow_term_faults(tree, i, first):
    faults = set()
    for outer, whole in slow_outer_terms(tree, i):
        leads, softs = slow_scope(tree, outer)
        command = at_path(tree, outer[:-1])
        names = len(command[1]) if command[0] == "set" else 1
        heads = [outer] if command[0] == "let" else []
        for path, term in slow_terms_in(whole, outer):
            wanted = names if path == outer else 1
            if term[0] == "name" and term[1] not in leads | softs:
                faults.add(("unknown", path))
            if term[0] == "call":
                heads.extend(path + (2, k) for k in range(len(term[2])))
                callee = tree[first[term[1]]] if first.get(term[1], i) < i else None
                if not callee or [len(callee[k]) for k in (2, 3, 6)] != [len(term[2]), len(term[3]), wanted]:
                    faults.add(("call", path))
            elif wanted > 1:
                faults.add(("call", path))
        for head in heads:
            for path, term in slow_terms_in(at_path(tree, head), head):
                if term[0] == "name" and term[1] in softs:
                    faults.add(("level", head, path))
    return faults


def slow_splits(raw):
    """All trees that have the shape of a program split off a raw program."""
    sides = [list(product((True, False), repeat=len(function[2]))) for function in raw]
    for marks in product(*sides):
        by_name = {function[1]: mark for function, mark in zip(raw, marks)}
        yield tuple(slow_marked(function, mark, by_name) for function, mark in zip(raw, marks))


def slow_marked(function, mark, by_name):
    def change(thing):
        if not isinstance(thing, tuple) or not thing:
            return thing
        if thing[0] == "ask" and len(thing) == 3 and isinstance(thing[2], tuple):
            known = by_name.get(thing[1], ())
            arguments = [(at < len(known) and known[at], change(part)) for at, part in enumerate(thing[2])]
            return ("call", thing[1], tuple(t for lead, t in arguments if lead), tuple(
                t for lead, t in arguments if not lead))
        return tuple(change(part) for part in thing)
    _, name, params, owns, block, gives = function
    leads = tuple(param for param, lead in zip(params, mark) if lead)
    softs = tuple(param for param, lead in zip(params, mark) if not lead)
    return ("fun", name, leads, softs, owns, change(block), change(gives))


# Meaning and bounds

def slow_run(program, f, leads, softs):
    """The outcomes, the steps and the trace of a run."""
    i = [function[1] for function in program].index(f)
    function = program[i]
    held = dict(zip(function[2] + function[3], leads + softs))
    held.update({name: "" for name in function[4]})
    notes = []
    steps = slow_execute(program, function[5], (i, 5), held, notes, function[3] + function[4])
    outcomes = ()
    for give in function[6]:
        words, more = slow_words(program, give, held)
        outcomes += words
        steps += more
    return outcomes, steps, tuple(notes)


def slow_words(program, term, held):
    if term[0] == "name":
        return (held[term[1]],), 1
    if term[0] == "word":
        return (term[1],), 1
    if term[0] == "call":
        steps = 1
        sides = ([], [])
        for side in (0, 1):
            for part in term[2 + side]:
                words, more = slow_words(program, part, held)
                steps += more
                sides[side].extend(words)
        outcomes, more, _ = slow_run(program, term[1], tuple(sides[0]), tuple(sides[1]))
        return outcomes, steps + more
    (word,), steps = slow_words(program, term[1], held)
    return (word + term[2] if term[0] == "put" else word[:-1],), steps + 1


def slow_execute(program, block, path, held, notes, names):
    steps = 0
    for k, command in enumerate(block):
        notes.append((path + (k,), tuple(held[name] for name in names)))
        steps += 1
        if command[0] == "each":
            word = held[command[1]]
            for at in reversed(range(len(word))):
                held[command[2]], held[command[3]] = word[:at], word[at]
                steps += 1 + slow_execute(program, command[4], path + (k, 4), held, notes, names)
            continue
        words, more = slow_words(program, command[1] if command[0] == "when" else command[2], held)
        steps += more
        if command[0] == "when":
            side = {"": 2, "0": 3, "1": 4}[words[0][-1:]]
            steps += slow_execute(program, command[side], path + (k, side), held, notes, names)
        else:
            names_set = (command[1],) if command[0] == "let" else command[1]
            held.update(zip(names_set, words))
    return steps


class Poly(dict):
    """A polynomial as a dict of coefficients."""

    def __add__(self, other):
        return Poly({e: self.get(e, 0) + other.get(e, 0) for e in {*self, *other}})

    def __mul__(self, other):
        total = Poly()
        for e in self:
            for g in other:
                total += Poly({tuple(a + b for a, b in zip(e, g)): self[e] * other[g]})
        return total

    def __or__(self, other):
        return Poly({e: max(self.get(e, 0), other.get(e, 0)) for e in {*self, *other}})

    def tuple(self):
        return tuple(sorted((e, c) for e, c in self.items() if c))


def slow_put_in(poly, one, parts):
    total = Poly()
    for exponents, coefficient in poly:
        here = Poly({e: coefficient for e in one})
        for part, times in zip(parts, exponents):
            for _ in range(times):
                here = here * part
        total += here
    return total


def slow_pair(program, i, table):
    """The pair that the rules give for the function at i, with the pairs of a table for the others."""
    function = program[i]
    k = len(function[2])
    one = Poly({(0,) * k: 1})
    sizes = {name: Poly({tuple(int(j == at) for j in range(k)): 1}) for at, name in enumerate(function[2])}
    positions = {other[1]: at for at, other in enumerate(program)}

    def greatest(polys):
        total = Poly()
        for poly in polys:
            total = total | poly
        return total

    def term(t):
        if t[0] == "name":
            return sizes.get(t[1], Poly()), one
        if t[0] == "word":
            return Poly({(0,) * k: len(t[1])}), one
        if t[0] == "call":
            q, p = table[positions[t[1]]]
            leads, softs = [term(x) for x in t[2]], [term(x) for x in t[3]]
            cost = one
            for x in leads + softs:
                cost += x[1]
            parts = [x[0] for x in leads]
            return slow_put_in(q, one, parts) + greatest(x[0] for x in softs), cost + slow_put_in(p, one, parts)
        growth, cost = term(t[1])
        return (growth + one if t[0] == "put" else growth), cost + one

    def block(commands):
        growth, cost = Poly(), Poly()
        for command in commands:
            more, steps = slow_command_pair(command, sizes, one, term, block, greatest)
            growth, cost = growth + more, cost + steps
        return growth, cost

    growth, cost = block(function[5])
    gives = [term(t) for t in function[6]]
    for give in gives:
        cost += give[1]
    return (growth + greatest(give[0] for give in gives)).tuple(), cost.tuple()


def slow_command_pair(command, sizes, one, term, block, greatest):
    if command[0] == "let":
        sizes[command[1]], cost = term(command[2])
        return Poly(), one + cost
    if command[0] == "set":
        growth, cost = term(command[2])
        return growth, one + cost
    if command[0] == "when":
        blocks = [block(part) for part in command[2:]]
        cost = one + term(command[1])[1] + greatest(part[1] for part in blocks)
        return greatest(part[0] for part in blocks), cost
    size = sizes[command[1]]
    sizes[command[2]], sizes[command[3]] = size, one
    growth, cost = block(command[4])
    return size * growth, one + size * (one + cost)
