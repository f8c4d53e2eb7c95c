"""The polynomials that bound code, read off its rows."""

from quicktongue.codefaults import fits_whole
from quicktongue.errors import BadUnit
from quicktongue.polywork import ZERO, constant, greatest_of, product_of
from quicktongue.polywork import put_in_parts, single_length, sum_of, sum_of_all


def code_bounds(unit):
    """The tuple of the pairs (q, p) of all codes of a unit."""
    if not fits_whole(unit):
        raise BadUnit(unit)
    pairs = []
    for code in unit[1]:
        reader = BoundReader(code, pairs)
        for row in code[4]:
            reader.read_row(row)
        pairs.append((reader.q, reader.p))
    return tuple(pairs)


class Opened:
    """A "when" or "each" that the rows are within, with what was known before it.

    `branches` has (q, p, sizes) for each branch that has ended.
    """

    def __init__(self, row, reader):
        self.row = row
        self.q = reader.q
        self.p = reader.p
        self.sizes = reader.sizes
        self.branches = []


class BoundReader:
    """Reads the polynomials of one code off its rows, row by row.

    `q` and `p` are those of the rows since the last "when", "zero", "one" or
    "each" around. `sizes` has the polynomial of each leading register that is
    set; of one that is not set any more it may have an old one, which no row of
    a unit that is taken reads. It is replaced at each change.
    """

    def __init__(self, code, pairs):
        self.many = code[0]
        self.pairs = pairs
        self.q = ZERO
        self.p = ZERO
        self.sizes = {("l", at): single_length(code[0], at) for at in range(code[0])}
        self.opened = []

    def number(self, number):
        """The polynomial that is this number everywhere."""
        return constant(self.many, number)

    def size_of(self, reg):
        """The polynomial of a register, 0 for a soft one."""
        return ZERO if reg[0] == "s" else self.sizes[reg]

    def read_row(self, row):
        """Goes on by one row."""
        kind = row[0]
        if kind in ("zero", "one"):
            self.end_branch()
        elif kind == "end" and self.opened[-1].row[0] == "when":
            self.end_when()
        elif kind == "end":
            self.end_each()
        else:
            self.p = sum_of(self.p, self.number(1))
            self.read_executed(row)

    def read_executed(self, row):
        """Goes on by a row that is executed."""
        kind = row[0]
        if kind in ("when", "each"):
            self.begin(row)
        elif kind == "give":
            self.q = sum_of(self.q, greatest_of([self.size_of(reg) for reg in row[1]]))
        elif kind == "call":
            q, p = self.of_call(row)
            self.p = sum_of(self.p, p)
            self.write(row[4], q)
        elif kind == "word":
            self.write(row[1:2], self.number(len(row[2])))
        else:
            more = self.number(1) if kind == "put" else ZERO
            self.write(row[1:2], sum_of(self.size_of(row[2]), more))

    def of_call(self, row):
        """The pair of what the outs of a "call" are given, and of the steps that it takes besides its own."""
        q, p = self.pairs[row[1]]
        leads = [self.size_of(reg) for reg in row[2]]
        softs = [self.size_of(reg) for reg in row[3]]
        return sum_of(put_in_parts(q, self.many, leads), greatest_of(softs)), put_in_parts(p, self.many, leads)

    def write(self, regs, poly):
        """Gives a polynomial to some registers; it counts once however many soft ones there are."""
        leading = [reg for reg in regs if reg[0] == "l"]
        if len(leading) < len(regs):
            self.q = sum_of(self.q, poly)
        if leading:
            self.sizes = {reg: self.sizes[reg] for reg in self.sizes}
            for reg in leading:
                self.sizes[reg] = poly

    def begin(self, row):
        """Begins the first branch of a "when", or the round of an "each"."""
        self.opened.append(Opened(row, self))
        self.q = ZERO
        self.p = ZERO
        if row[0] == "each":
            self.write(row[2:3], self.size_of(row[1]))
            self.write(row[3:4], self.number(1))

    def end_branch(self):
        """Ends a branch, so that the next one can begin."""
        opened = self.opened[-1]
        opened.branches.append((self.q, self.p, self.sizes))
        self.q = ZERO
        self.p = ZERO
        self.sizes = opened.sizes

    def end_when(self):
        """Ends the last branch: the greatest of the three counts."""
        self.end_branch()
        opened = self.opened.pop()
        self.q = sum_of(opened.q, greatest_of([branch[0] for branch in opened.branches]))
        self.p = sum_of(opened.p, greatest_of([branch[1] for branch in opened.branches]))
        ends = [branch[2] for branch in opened.branches]
        self.sizes = {}
        for reg in ends[0]:
            if reg in ends[1] and reg in ends[2]:
                self.sizes[reg] = greatest_of([end[reg] for end in ends])

    def end_each(self):
        """Ends a round, which has as many turns as its leader's word has letters."""
        opened = self.opened.pop()
        size = opened.sizes[opened.row[1]]
        self.q = sum_of(opened.q, product_of(size, self.q))
        self.p = sum_of_all([opened.p, size, product_of(size, self.p)])
        self.sizes = opened.sizes
