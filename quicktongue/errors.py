"""The errors of the package: each one keeps what it was made with."""


class QuickError(Exception):
    """The base class of all errors of the package."""


class BadTree(QuickError):
    """The value is not a program tree."""

    def __init__(self, thing):
        self.thing = thing


class BadProgram(QuickError):
    """The value is not a program."""

    def __init__(self, thing):
        self.thing = thing


class BadWord(QuickError):
    """The value is not a word."""

    def __init__(self, thing):
        self.thing = thing


class BadText(QuickError):
    """The value is not such a text: `at` is the number of a line, 0 if it is not a string."""

    def __init__(self, at):
        self.at = at


class BadPath(QuickError):
    """The value is not a path of the kind that is asked for."""

    def __init__(self, thing):
        self.thing = thing


class BadRaw(QuickError):
    """The value is not a raw program."""

    def __init__(self, thing):
        self.thing = thing


class BadName(QuickError):
    """The value is not the name of such a function."""

    def __init__(self, thing):
        self.thing = thing


class BadInputs(QuickError):
    """The value is not a tuple of as many inputs as needed."""

    def __init__(self, thing):
        self.thing = thing


class BadPoly(QuickError):
    """The value is not a polynomial, or not a tuple of such, over so many lengths."""

    def __init__(self, thing):
        self.thing = thing


class BadTable(QuickError):
    """The value is not a table of the program."""

    def __init__(self, thing):
        self.thing = thing


class BadNumber(QuickError):
    """The value is not a number of the kind that is asked for."""

    def __init__(self, thing):
        self.thing = thing


class BadStep(QuickError):
    """The value is not a simplifying step of the program."""

    def __init__(self, thing):
        self.thing = thing


class BadUnit(QuickError):
    """The value is not a unit of the kind that is asked for."""

    def __init__(self, thing):
        self.thing = thing


class BadStanding(QuickError):
    """The value is not a standing."""

    def __init__(self, thing):
        self.thing = thing


class BadSharing(QuickError):
    """The value is not a sharing of the unit that can be used."""

    def __init__(self, thing):
        self.thing = thing


class BadBytes(QuickError):
    """The value is not the bytes of a unit: `at` tells how many of the first ones can be right."""

    def __init__(self, at):
        self.at = at


class BadUnits(QuickError):
    """The value is not a tuple of units that are taken."""

    def __init__(self, thing):
        self.thing = thing


class BadMachine(QuickError):
    """The value is not a pile machine."""

    def __init__(self, thing):
        self.thing = thing
