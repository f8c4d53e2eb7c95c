"""Values and generators that several tests share."""

import random

KEPT_WORDS = ("fun", "own", "let", "set", "when", "none", "zero", "one", "each", "as", "give", "cut")

ODD_VALUES = (
    None, True, False, 0, 1, -1, 10 ** 39, "", "0", "1", "01", "x", "name", "word", "fun", "fit", " ", "a\nb", "%",
    (), [], {}, (None,), ("name", "x"), ["name", "x"], ("word", ""), (("name", "x"),), {"name": "x"}, ((), ()),
    ("name",), (True, 1), (0, 1), [0, 1], ("fit",), ["fit"], ("right",), ("none",), ("twice", (0, 1)),
    ("call", "f", (), ()), ("set", ("x",), ("name", "x")), ("fun", "f", (), (), (), (), (("word", ""),)),
    ((((((((((((),),),),),),),),),),),), [[[[[[[[[[[["x"]]]]]]]]]]]], {"a": {"b": [({},)]}}, tuple(range(3000)),
)


def sub_paths(value, path=()):
    """The paths of all parts of nested tuples."""
    yield path
    if isinstance(value, tuple):
        for at, part in enumerate(value):
            yield from sub_paths(part, path + (at,))


def at_path(value, path):
    """The part at a path."""
    for at in path:
        value = value[at]
    return value


def replaced(value, path, part):
    """The value with another part at a path."""
    if not path:
        return part
    inner = replaced(value[path[0]], path[1:], part)
    return value[:path[0]] + (inner,) + value[path[0] + 1:]


def bent(value, rng):
    """The value with one part made otherwise."""
    path = rng.choice(list(sub_paths(value)))
    part = at_path(value, path)
    choices = [rng.choice(ODD_VALUES)]
    if isinstance(part, tuple):
        choices.append(list(part))
        if part:
            k = rng.randrange(len(part))
            choices.append(part[:k] + part[k + 1:])
            choices.append(part[:k] + (part[k],) + part[k:])
            choices.append(tuple(reversed(part)))
            choices.append(part + (rng.choice(ODD_VALUES),))
    elif isinstance(part, str):
        choices.extend([part + "0", part[:-1], part.upper(), [part], (part,), part + "\n"])
    elif part in (0, 1):
        choices.extend([bool(part), part + 1, str(part)])
    return replaced(value, path, rng.choice(choices))


class TreeMaker:
    """Makes trees of the right shape, with faults or without."""

    NAMES = ("a", "b", "x", "y", "s1", "name", "word")

    def __init__(self, seed):
        self.rng = random.Random(seed)

    def name(self):
        return self.rng.choice(self.NAMES)

    def names(self, least=0):
        return tuple(self.name() for _ in range(self.rng.randrange(least, 3)))

    def word(self):
        return "".join(self.rng.choice("01") for _ in range(self.rng.randrange(4)))

    def terms(self, depth, least=0):
        return tuple(self.term(depth) for _ in range(self.rng.randrange(least, 3)))

    def term(self, depth):
        kind = self.rng.choice(("name", "name", "word", "put", "cut", "call") if depth else ("name", "word"))
        if kind == "name":
            return ("name", self.name())
        if kind == "word":
            return ("word", self.word())
        if kind == "put":
            return ("put", self.term(depth - 1), self.rng.choice("01"))
        if kind == "cut":
            return ("cut", self.term(depth - 1))
        return ("call", self.rng.choice("fgh"), self.terms(depth - 1), self.terms(depth - 1))

    def command(self, depth):
        kind = self.rng.choice(("let", "set", "when", "each") if depth else ("let", "set"))
        if kind == "let":
            return ("let", self.name(), self.term(2))
        if kind == "set":
            return ("set", self.names(1) or ("a",), self.term(2))
        if kind == "when":
            return ("when", self.term(1), self.block(depth - 1), self.block(depth - 1), self.block(depth - 1))
        return ("each", self.name(), self.name(), self.name(), self.block(depth - 1))

    def block(self, depth):
        return tuple(self.command(depth) for _ in range(self.rng.randrange(3)))

    def function(self):
        f = self.rng.choice("fgh")
        gives = self.terms(2, 1) or (self.term(1),)
        return ("fun", f, self.names(), self.names(), self.names(), self.block(2), gives)

    def tree(self):
        return tuple(self.function() for _ in range(self.rng.randrange(4)))


class ProgramMaker:
    """Makes programs, that is, trees without a fault."""

    def __init__(self, seed):
        self.rng = random.Random(seed)
        self.functions = []
        self.number = 0

    def fresh(self):
        self.number += 1
        return "n" + str(self.number)

    def callees(self, many):
        return [function for function in self.functions if len(function[6]) == many]

    def call(self, callee, scope, softs, depth):
        leads = tuple(self.term(scope, (), depth - 1) for _ in callee[2])
        others = tuple(self.term(scope, softs, depth - 1) for _ in callee[3])
        return ("call", callee[1], leads, others)

    def term(self, scope, softs, depth):
        kinds = ["word"]
        if scope or softs:
            kinds += ["name", "name", "name"]
        if depth > 0:
            kinds += ["put", "put", "cut"] + (["call", "call"] if self.callees(1) else [])
        kind = self.rng.choice(kinds)
        if kind == "name":
            return ("name", self.rng.choice(tuple(scope) + tuple(softs)))
        if kind == "word":
            return ("word", "".join(self.rng.choice("01") for _ in range(self.rng.randrange(3))))
        if kind == "put":
            return ("put", self.term(scope, softs, depth - 1), self.rng.choice("01"))
        if kind == "cut":
            return ("cut", self.term(scope, softs, depth - 1))
        return self.call(self.rng.choice(self.callees(1)), scope, softs, depth)

    def set_command(self, scope, softs):
        many = self.rng.choice((1, 1, 2))
        if many == 1 or len(softs) < 2 or not self.callees(2):
            return ("set", (self.rng.choice(softs),), self.term(scope, softs, 2))
        names = tuple(self.rng.sample(softs, 2))
        return ("set", names, self.call(self.rng.choice(self.callees(2)), scope, softs, 2))

    def block(self, scope, softs, depth):
        commands = []
        for _ in range(self.rng.randrange(4)):
            kind = self.rng.choice(("let", "set", "set", "when", "each") if depth else ("let", "set"))
            if kind == "each" and scope:
                rest, letter = self.fresh(), self.fresh()
                inner = self.block(scope + (rest, letter), softs, depth - 1)
                commands.append(("each", self.rng.choice(scope), rest, letter, inner))
            elif kind == "when":
                blocks = [self.block(scope, softs, depth - 1) for _ in range(3)]
                commands.append(("when", self.term(scope, softs, 1), *blocks))
            elif kind == "set" and softs:
                commands.append(self.set_command(scope, softs))
            else:
                name = self.fresh()
                commands.append(("let", name, self.term(scope, (), 2)))
                scope += (name,)
        self.scope = scope
        return tuple(commands)

    def function(self):
        leads, softs, owns = (tuple(self.fresh() for _ in range(self.rng.randrange(3))) for _ in range(3))
        block = self.block(leads, softs + owns, 2)
        scope = self.scope
        gives = tuple(self.term(scope, softs + owns, 1) for _ in range(self.rng.choice((1, 1, 2))))
        return ("fun", "f" + str(len(self.functions)), leads, softs, owns, block, gives)

    def program(self):
        for _ in range(self.rng.randrange(1, 5)):
            self.functions.append(self.function())
        return tuple(self.functions)


def raw_of(program, rng):
    """A raw program that a program is split off: its params are its leads and softs in any order of both."""
    orders = {}
    raw = []
    for function in program:
        sides = [2] * len(function[2]) + [3] * len(function[3])
        rng.shuffle(sides)
        orders[function[1]] = sides
        params = merged(sides, function[2], function[3])
        raw.append(("raw", function[1], params, function[4], asking(function[5], orders), asking(function[6], orders)))
    return tuple(raw)


def merged(sides, leads, softs):
    """Two tuples as one, by the sides 2 and 3 that its items come from."""
    leads, softs = list(leads), list(softs)
    return tuple((leads if side == 2 else softs).pop(0) for side in sides)


def asking(thing, orders):
    """A part of a program with asks in place of its calls."""
    if not isinstance(thing, tuple):
        return thing
    if len(thing) == 4 and thing[0] == "call":
        leads, softs = asking(thing[2], orders), asking(thing[3], orders)
        return ("ask", thing[1], merged(orders[thing[1]], leads, softs))
    return tuple(asking(part, orders) for part in thing)
