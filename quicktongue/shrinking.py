"""The steps of the simplifier: where they stand, and what they make of a program."""

from quicktongue.needs import needs_behind
from quicktongue.places import places_in


def all_steps(program):
    """The list of all simplifying steps of a program, in ascending order."""
    steps = []
    for at, function in enumerate(program):
        steps.extend(StepFinder(function, (at,)).all_found())
    return sorted(steps)


class StepFinder:
    """Finds the simplifying steps of one function.

    `copied` has for each name that is let by a name alone this other name, and
    `seen` has all names that are read. The own names of a function are unlike,
    and a name is read only where it is in scope, so one dict serves all blocks.
    """

    def __init__(self, function, path):
        self.places = places_in(function, path)
        self.behind = needs_behind(function, path)
        self.copied = {}
        self.seen = {}
        for place in self.places:
            self.note(place.thing)

    def note(self, thing):
        """Notes what a term or a command reads, and which name it copies."""
        if thing[0] in ("name", "each"):
            self.seen[thing[1]] = True
        elif thing[0] == "let" and thing[2][0] == "name":
            self.copied[thing[1]] = thing[2][1]

    def all_found(self):
        """The list of the steps."""
        return [(kind, place.path) for place in self.places for kind in self.kinds_at(place)]

    def kinds_at(self, place):
        """The list of the kinds of the steps at a place."""
        thing = place.thing
        kinds = []
        if thing[0] == "when" and thing[1][0] in ("word", "put"):
            kinds.append("choice")
        if thing[0] == "name" and thing[1] in self.copied:
            kinds.append("copy")
        if self.is_dead(place):
            kinds.append("dead")
        if thing[0] in ("put", "cut") and plain_value(thing) is not None:
            kinds.append("known")
        if thing[0] == "cut" and thing[1][0] == "put":
            kinds.append("same")
        return kinds

    def is_dead(self, place):
        """Whether there is a command that does nothing that is needed."""
        thing = place.thing
        kind = thing[0]
        if kind == "let":
            return thing[1] not in self.seen
        if kind == "set":
            return not any(name in self.behind[place.path] for name in thing[1])
        if kind == "when":
            return thing[2:] == ((), (), ())
        return kind == "each" and thing[4] == ()

    def after_copy(self, thing):
        """The term that stands in place of a name that is copied."""
        return ("name", self.copied[thing[1]])


def plain_value(term):
    """The word that a term of words, puts and cuts alone evaluates to; None for other terms."""
    around = []
    while term[0] in ("put", "cut"):
        around.append(term)
        term = term[1]
    if term[0] != "word":
        return None
    word = term[1]
    around.reverse()
    for part in around:
        word = word + part[2] if part[0] == "put" else word[:-1]
    return word


def after_step(program, step):
    """The program after a simplifying step of it."""
    kind, path = step
    thing = thing_at(program, path)
    if kind == "dead":
        return spliced(program, path, ())
    if kind == "choice":
        return spliced(program, path, chosen_block(thing))
    if kind == "same":
        return spliced(program, path, (thing[1][1],))
    if kind == "known":
        return spliced(program, path, (("word", plain_value(thing)),))
    finder = StepFinder(program[path[0]], path[:1])
    return spliced(program, path, (finder.after_copy(thing),))


def chosen_block(command):
    """The block of a when that is chosen by its term, a word or a put."""
    term = command[1]
    last = term[2] if term[0] == "put" else term[1][-1:]
    return command[2] if last == "" else command[3 + int(last)]


def thing_at(program, path):
    """The thing at a path."""
    thing = program
    for at in path:
        thing = thing[at]
    return thing


def spliced(thing, path, parts):
    """A tuple with some parts in place of the one at a path."""
    at = path[0]
    inner = parts if len(path) == 1 else (spliced(thing[at], path[1:], parts),)
    return thing[:at] + inner + thing[at + 1:]
