"""Reading units from bytes, byte by byte.

Where no more bytes could make it right, the reader has read just as many bytes
as can begin a unit's bytes: each byte is taken only if some unit goes on so.
"""

from quicktongue.errors import BadBytes
from quicktongue.rows import ROW_PARTS
from quicktongue.trees import KEPT_WORDS, LETTERS, LONGEST_NAME, SIGNS

HEAD = (81, 84)
# The number of a kind of row is 1 more than its position here.
KINDS = ("word", "move", "put", "cut", "call", "when", "zero", "one", "end", "each", "give")
FIRST_SOFT = 128
MOST = 255


class ByteReader:
    """Reads a unit from bytes; raises BadBytes as soon as these cannot go on so, or have ended.

    `at` is the number of the bytes that have been read.
    """

    def __init__(self, given):
        self.given = given
        self.at = 0
        self.signs = {ord(sign): sign for sign in SIGNS}

    def next_byte(self, least, most):
        """The next byte, which has to be from the least to the most."""
        if self.at == len(self.given) or not least <= self.given[self.at] <= most:
            raise BadBytes(self.at)
        self.at += 1
        return self.given[self.at - 1]

    def next_bytes(self, many):
        """The tuple of so many next bytes, which can be any."""
        return tuple([self.next_byte(0, MOST) for _ in range(many)])

    def whole_unit(self):
        """The unit that all bytes together are."""
        for number in HEAD:
            self.next_byte(number, number)
        needs = self.all_needs()
        codes = tuple([self.next_code() for _ in range(self.next_byte(0, MOST))])
        shows = self.all_shows(len(codes))
        if self.at < len(self.given):
            raise BadBytes(self.at)
        return (needs, codes, shows)

    def all_needs(self):
        """What the unit needs."""
        needs = []
        for _ in range(self.next_byte(0, MOST)):
            name = self.next_name([need[0] for need in needs])
            needs.append((name,) + self.next_bytes(2) + (self.next_byte(1, MOST),))
        return tuple(needs)

    def all_shows(self, many):
        """What the unit with so many codes shows: nothing if there are none."""
        shows = []
        for _ in range(self.next_byte(0, MOST if many else 0)):
            name = self.next_name([show[0] for show in shows])
            shows.append((name, self.next_byte(0, many - 1)))
        return tuple(shows)

    def next_name(self, taken):
        """The next name, which is none of those that are taken."""
        many = self.next_byte(1, LONGEST_NAME)
        barred = [name for name in list(KEPT_WORDS) + taken if len(name) == many]
        name = ""
        if not is_open(name, many, barred):
            raise BadBytes(self.at - 1)
        while len(name) < many:
            longer = name + self.signs.get(self.next_byte(0, MOST), "")
            if len(longer) == len(name) or not is_open(longer, many, barred):
                raise BadBytes(self.at - 1)
            name = longer
        return name

    def next_code(self):
        """The next code function."""
        leads, softs = self.next_bytes(2)
        wide_leads = self.next_byte(leads, MOST)
        wide_softs = self.next_byte(softs, MOST)
        rows = [self.next_row()]
        while rows[-1][0] != "give":
            rows.append(self.next_row())
        return (leads, softs, wide_leads, wide_softs, tuple(rows))

    def next_row(self):
        """The next row."""
        kind = KINDS[self.next_byte(1, len(KINDS)) - 1]
        return (kind,) + tuple([self.next_part(part) for part in ROW_PARTS[kind]])

    def next_part(self, kind):
        """The next part of a row, which is of such a kind."""
        if kind == "reg":
            return reg_of(self.next_byte(0, MOST))
        if kind == "letter":
            return str(self.next_byte(0, 1))
        if kind == "word":
            return "".join([str(self.next_byte(0, 1)) for _ in range(self.next_byte(0, MOST))])
        if kind == "number":
            return self.next_byte(0, MOST)
        many = self.next_byte(1 if kind == "some" else 0, MOST)
        return tuple([reg_of(byte) for byte in self.next_bytes(many)])


def reg_of(byte):
    """The register that has a byte."""
    return ("l", byte) if byte < FIRST_SOFT else ("s", byte - FIRST_SOFT)


def is_open(start, many, barred):
    """Whether some name of so many signs that is not barred begins with some signs; those barred have as many."""
    if start and start[0] not in LETTERS:
        return False
    closed = [name for name in barred if name.startswith(start)]
    ways = 1
    for at in range(len(start), many):
        ways = ways * len(SIGNS if at else LETTERS)
    return ways > len(closed)
