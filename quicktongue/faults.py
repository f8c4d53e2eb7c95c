"""The faults of a tree, each one as its certificate."""

from quicktongue.places import places_in


def all_faults(tree):
    """The list of all faults of a tree."""
    faults = []
    firsts = {}
    for at, function in enumerate(tree):
        if function[1] in firsts:
            faults.append(("twice", (at, 1)))
        places = places_in(function, (at,))
        softs = function[3] + function[4]
        faults.extend(twice_faults(own_names(function, at, places)))
        for place in places:
            faults.extend(name_faults(place, softs))
            faults.extend(call_faults(place, firsts))
        # A function is known only to those behind it, and of several of one name the first one counts.
        firsts.setdefault(function[1], function)
    return faults


def own_names(function, at, places):
    """The list of the own names of the function at a position of a tree, each with its path."""
    names = []
    for part in (2, 3, 4):
        for k, name in enumerate(function[part]):
            names.append(((at, part, k), name))
    for place in places:
        if place.thing[0] == "let":
            names.append((place.path + (1,), place.thing[1]))
        elif place.thing[0] == "each":
            names.append((place.path + (2,), place.thing[2]))
            names.append((place.path + (3,), place.thing[3]))
    return names


def twice_faults(named):
    """The faults of the names in a list of paths and names that occur earlier in it."""
    faults = []
    seen = set()
    for path, name in named:
        if name in seen:
            faults.append(("twice", path))
        seen.add(name)
    return faults


def name_faults(place, softs):
    """The faults at a place that are about its names, in a function with such soft names."""
    kind = place.thing[0]
    if kind == "name":
        return read_faults(place, softs)
    if kind == "each":
        path = place.path + (1,)
        return leader_faults(path, place.thing[1], place.scope, softs)
    if kind == "set":
        return target_faults(place, softs)
    return []


def read_faults(place, softs):
    """The faults of a name that is read as a term."""
    name = place.thing[1]
    if name in softs:
        return [("level", head, place.path) for head in place.heads]
    if name in place.scope:
        return []
    return [("unknown", place.path)]


def leader_faults(path, name, scope, softs):
    """The faults of the leader of an each."""
    if name in softs:
        return [("level", path, path)]
    if name in scope:
        return []
    return [("unknown", path)]


def target_faults(place, softs):
    """The faults of the names that a set sets."""
    named = [(place.path + (1, k), name) for k, name in enumerate(place.thing[1])]
    faults = twice_faults(named)
    for path, name in named:
        if name in softs:
            continue
        if name in place.scope:
            faults.append(("level", path, path))
        else:
            faults.append(("unknown", path))
    return faults


def call_faults(place, firsts):
    """The faults at a place that are about calls; `firsts` has the earlier functions by name."""
    term = place.thing
    if term[0] == "call":
        right = fits_callee(term, place.many, firsts)
    else:
        # A command has to have no outcome, and a term that is no call can have but one.
        right = place.many < 2
    return [] if right else [("call", place.path)]


def fits_callee(term, many, firsts):
    """Whether a call is of an earlier function that has as many leads, softs and outcomes."""
    if term[1] not in firsts:
        return False
    callee = firsts[term[1]]
    return len(term[2]) == len(callee[2]) and len(term[3]) == len(callee[3]) and many == len(callee[6])
