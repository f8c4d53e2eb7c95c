"""Units of any shape, whether they are taken or not."""

from tests.support import KEPT_WORDS
from tests.unitmaker import l, s, word

SIGNS = "abcdefghijklmnopqrstuvwxyz0123456789_"
KINDS = ("word", "move", "put", "cut", "call", "when", "zero", "one", "end", "each")


def name_not_in(rng, taken):
    """A name of 1 to 20 signs, often a short one."""
    while True:
        many = rng.choice((1, 1, 2, 3, 20, rng.randrange(1, 21)))
        name = rng.choice(SIGNS[:26]) + "".join(rng.choice(SIGNS) for _ in range(many - 1))
        if name not in taken and name not in KEPT_WORDS:
            return name


def names(rng, many):
    """So many unlike names."""
    found = []
    for _ in range(many):
        found.append(name_not_in(rng, found))
    return found


def loose_reg(rng, most):
    return rng.choice((l, s))(rng.choice((0, 1, 2, rng.randrange(most))))


def loose_regs(rng, most, least=0):
    return tuple(loose_reg(rng, most) for _ in range(rng.choice((least, 1, 2, rng.randrange(least, 5)))))


def loose_row(rng, most):
    """A row of any kind but "give", with registers below such a number."""
    kind = rng.choice(KINDS)
    if kind == "word":
        return (kind, loose_reg(rng, most), word(rng, rng.choice((0, 1, 3, 60))))
    if kind == "call":
        number = rng.choice((0, 1, rng.randrange(256)))
        return (kind, number) + tuple(loose_regs(rng, most) for _ in range(3))
    many = {"move": 2, "put": 2, "cut": 2, "when": 1, "each": 3}.get(kind, 0)
    row = (kind,) + tuple(loose_reg(rng, most) for _ in range(many))
    return row + (rng.choice("01"),) if kind == "put" else row


def loose_code(rng, most):
    """A code function whose rows have one "give", at their end."""
    wide = (rng.choice((0, 1, rng.randrange(256))), rng.choice((0, 2, rng.randrange(256))))
    rows = [loose_row(rng, most) for _ in range(rng.randrange(6))]
    arguments = tuple(rng.choice((0, number, rng.randrange(number + 1))) for number in wide)
    return arguments + wide + (tuple(rows) + (("give", loose_regs(rng, most, 1)),),)


def loose_unit(rng, most=128):
    """A unit of any shape, but with one "give" in each function, at its end."""
    needs = tuple((name, rng.randrange(4), rng.choice((0, 255)), rng.choice((1, 2, 255)))
                  for name in names(rng, rng.choice((0, 0, 1, 3))))
    codes = tuple(loose_code(rng, most) for _ in range(rng.choice((0, 1, 1, 2, 3))))
    many = rng.choice((0, 1, 3)) if codes else 0
    return needs, codes, tuple((name, rng.randrange(len(codes))) for name in names(rng, many))


def loose_text_unit(rng):
    """A unit of any shape, also with far registers, negative called numbers and other "give" rows, or none."""
    needs, codes, shows = loose_unit(rng, 10 ** 6)
    changed = []
    for code in codes:
        rows = list(code[4])
        kind = rng.randrange(4)
        if kind == 0:
            rows = []
        elif kind == 1:
            rows.pop()
        elif kind == 2:
            rows.insert(0, ("give", loose_regs(rng, 300, 1)))
        if rng.random() < 0.3:
            rows.append(("call", -rng.randrange(10 ** 6), (), loose_regs(rng, 10), ()))
        changed.append(code[:4] + (tuple(rows),))
    return needs, tuple(changed), shows
