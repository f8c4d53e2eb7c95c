"""The places of a tree: all its terms and commands, with what is in scope there."""


class Place:
    """A term or a command of a tree.

    `scope` is the tuple of the names that the commands around and before it,
    and the leads, put in scope. `many` is how many outcomes a term has to have.
    `heads` holds the paths of all terms around it, itself included, that have
    to be leading: terms of a let, and leading arguments of calls.
    """

    def __init__(self, path, thing, scope, many, heads):
        self.path = path
        self.thing = thing
        self.scope = scope
        self.many = many
        self.heads = heads


class Walk:
    """A walk through functions, which notes their terms and commands in the order of the tree."""

    def __init__(self):
        self.places = []

    def walk_function(self, function, path):
        """Notes what is in a function at a path."""
        scope = self.walk_block(function[5], path + (5,), function[2])
        for at, term in enumerate(function[6]):
            self.walk_term(term, path + (6, at), scope, 1, ())

    def walk_block(self, block, path, scope):
        """Notes what is in a block; returns the names in scope behind it."""
        for at, command in enumerate(block):
            self.walk_command(command, path + (at,), scope)
            if command[0] == "let":
                scope = scope + (command[1],)
        return scope

    def walk_command(self, command, path, scope):
        """Notes a command and what is in it."""
        self.places.append(Place(path, command, scope, 0, ()))
        kind = command[0]
        if kind == "let":
            self.walk_term(command[2], path + (2,), scope, 1, (path + (2,),))
        elif kind == "set":
            self.walk_term(command[2], path + (2,), scope, len(command[1]), ())
        elif kind == "when":
            self.walk_term(command[1], path + (1,), scope, 1, ())
            for at in range(2, 5):
                self.walk_block(command[at], path + (at,), scope)
        else:
            self.walk_block(command[4], path + (4,), scope + command[2:4])

    def walk_term(self, term, path, scope, many, heads):
        """Notes a term and what is in it."""
        self.places.append(Place(path, term, scope, many, heads))
        kind = term[0]
        if kind in ("put", "cut"):
            self.walk_term(term[1], path + (1,), scope, 1, heads)
        elif kind == "call":
            for at, lead in enumerate(term[2]):
                inner = path + (2, at)
                self.walk_term(lead, inner, scope, 1, heads + (inner,))
            for at, soft in enumerate(term[3]):
                self.walk_term(soft, path + (3, at), scope, 1, heads)


def places_in(function, path):
    """The list of the places of a function that stands at a path."""
    walk = Walk()
    walk.walk_function(function, path)
    return walk.places
