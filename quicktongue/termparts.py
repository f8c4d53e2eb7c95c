"""Reading terms from the parts of a line.

The terms are read part by part, without recursion, because a line can hold
more brackets than Python's calls may be nested.
"""

from quicktongue.parts import Unreadable, is_head, is_quoted
from quicktongue.trees import is_name


class Around:
    """What stands around the term that is read next: a cut, a bracket, a call's leads or softs, or the line."""

    def __init__(self, kind, name):
        self.kind = kind
        self.name = name
        self.leads = ()
        self.terms = []


class TermReader:
    """Terms with commas between them, read part by part."""

    def __init__(self):
        self.arounds = [Around("line", "")]
        self.term = None

    def read_part(self, part):
        """Goes on by one part; raises Unreadable."""
        if self.term is None:
            self.begin_term(part)
        else:
            self.go_on(part)

    def begin_term(self, part):
        """Reads a part where a term has to begin."""
        around = self.arounds[-1]
        if part == "cut":
            self.arounds.append(Around("cut", ""))
        elif part == "(":
            self.arounds.append(Around("bracket", ""))
        elif is_head(part):
            self.arounds.append(Around("leads", part[:-1]))
        elif is_quoted(part):
            self.term = ("word", part[1:-1])
        elif is_name(part):
            self.term = ("name", part)
        elif part == ";" and around.kind == "leads" and not around.terms:
            around.kind = "softs"
        elif part == ")" and around.kind == "softs" and not around.terms:
            self.end_call()
        else:
            raise Unreadable("no term begins here")

    def go_on(self, part):
        """Reads a part that follows a term."""
        self.end_cuts()
        around = self.arounds[-1]
        if part in ("+0", "+1"):
            self.term = ("put", self.term, part[1])
        elif part == "," and around.kind != "bracket":
            self.end_term()
        elif part == ";" and around.kind == "leads":
            self.end_term()
            around.leads = tuple(around.terms)
            around.terms = []
            around.kind = "softs"
        elif part == ")" and around.kind == "bracket":
            self.arounds.pop()
        elif part == ")" and around.kind == "softs":
            self.end_term()
            self.end_call()
        else:
            raise Unreadable("nothing of this kind follows a term")

    def end_cuts(self):
        """Puts the cuts that wait for the term around it: a cut takes the shortest term behind it."""
        while self.arounds[-1].kind == "cut":
            self.arounds.pop()
            self.term = ("cut", self.term)

    def end_term(self):
        """Adds the term to those that are there already."""
        self.arounds[-1].terms.append(self.term)
        self.term = None

    def end_call(self):
        """Makes the call whose bracket is closed the term."""
        call = self.arounds.pop()
        self.term = ("call", call.name, call.leads, tuple(call.terms))

    def all_terms(self):
        """The tuple of the terms, at the end of the line; raises Unreadable."""
        if self.term is None:
            raise Unreadable("a term is missing")
        self.end_cuts()
        if self.arounds[-1].kind != "line":
            raise Unreadable("a bracket is not closed")
        self.end_term()
        return tuple(self.arounds[-1].terms)


def terms_of(parts):
    """The tuple of the one or more terms that parts of a line are; raises Unreadable."""
    reader = TermReader()
    for part in parts:
        reader.read_part(part)
    return reader.all_terms()


def term_of(parts):
    """The one term that parts of a line are; raises Unreadable."""
    terms = terms_of(parts)
    if len(terms) != 1:
        raise Unreadable("there is more than one term")
    return terms[0]
