"""Raw programs: what they are, and the program with the least leads that can be split off one."""

from quicktongue.places import places_in
from quicktongue.trees import fits_function


def fits_raw(thing):
    """Whether any value is a raw program."""
    return isinstance(thing, tuple) and all(fits_function(part, "raw", "ask") for part in thing)


def least_tree(raw):
    """The tree that is split off a raw program if any program is.

    Leads are only those params that have to be leading. So no program that is
    split off has fewer leads, and if this tree has a fault, each other one has.
    """
    tree = []
    marks = {}
    for function in raw:
        marked = marked_function(function, marks)
        tree.append(marked)
        marks[function[1]] = [name in marked[2] for name in function[2]]
    return tuple(tree)


def marked_function(function, marks):
    """A raw function as a function; `marks` tells for the earlier ones which params are leads."""
    _, name, params, owns, block, gives = function
    block = marked_block(block, marks)
    gives = marked_terms(gives, marks)
    forced = forced_names(("fun", name, params, (), owns, block, gives))
    leads = tuple([param for param in params if param in forced])
    softs = tuple([param for param in params if param not in forced])
    return ("fun", name, leads, softs, owns, block, gives)


def forced_names(function):
    """The dict of the names that have to be leading in a function, whatever its leads are."""
    forced = {}
    for place in places_in(function, ()):
        kind = place.thing[0]
        if kind == "each" or (kind == "name" and place.heads):
            forced[place.thing[1]] = True
    return forced


def marked_block(block, marks):
    """A raw block as a block."""
    return tuple([marked_command(command, marks) for command in block])


def marked_command(command, marks):
    """A raw command as a command."""
    kind = command[0]
    if kind in ("let", "set"):
        return (kind, command[1], marked_term(command[2], marks))
    if kind == "when":
        none, zero, one = [marked_block(block, marks) for block in command[2:]]
        return ("when", marked_term(command[1], marks), none, zero, one)
    return command[:4] + (marked_block(command[4], marks),)


def marked_terms(terms, marks):
    """A tuple of raw terms as terms."""
    return tuple([marked_term(term, marks) for term in terms])


def marked_term(term, marks):
    """A raw term as a term."""
    kind = term[0]
    if kind in ("put", "cut"):
        return (kind, marked_term(term[1], marks)) + term[2:]
    if kind == "ask":
        return marked_call(term[1], marked_terms(term[2], marks), marks)
    return term


def marked_call(name, arguments, marks):
    """A call with its arguments parted into leading and soft ones.

    If the function is unknown or has another number of params, the call keeps
    a fault whatever part its arguments are put to.
    """
    known = marks.get(name, [])
    leading = [at < len(known) and known[at] for at in range(len(arguments))]
    leads = tuple([term for term, lead in zip(arguments, leading) if lead])
    softs = tuple([term for term, lead in zip(arguments, leading) if not lead])
    return ("call", name, leads, softs)
