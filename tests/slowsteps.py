"""Other, slower ways to the needed names and to the steps of the simplifier, from the words of the document."""

from tests.slow import slow_commands, slow_scope, slow_terms_in
from tests.support import at_path, sub_paths


def slow_needed(program, i):
    """The dict of the sets of names that are needed behind each command: the rules are used until none adds a fact."""
    function = program[i]
    softs = set(function[3]) | set(function[4])
    commands = dict(slow_commands(function[5], (i, 5)))
    facts = {("after", path): set() for path in commands}
    facts.update({("before", path): set() for path in commands})
    gives = set().union(*(slow_read(term) for term in function[6])) & softs

    def before_block(path):
        block = at_path(program, path)
        return facts[("before", path + (0,))] if block else behind_block(path)

    def behind_block(path):
        if len(path) == 2:
            return gives
        around = path[:-1]
        if commands[around][0] == "each":
            return facts[("after", around)] | before_block(path)
        return facts[("after", around)]

    def told(path, command):
        after = facts[("after", path)]
        if command[0] == "let":
            return after
        if command[0] == "set":
            reads = slow_read(command[2]) & softs if after & set(command[1]) else set()
            return after - set(command[1]) | reads
        if command[0] == "when":
            blocks = [before_block(path + (side,)) for side in (2, 3, 4)]
            return (slow_read(command[1]) & softs).union(*blocks)
        return after | (before_block(path + (4,)) if command[4] else set())

    size = None
    while size != sum(map(len, facts.values())):
        size = sum(map(len, facts.values()))
        for path, command in commands.items():
            last = path[-1] + 1 == len(at_path(program, path[:-1]))
            facts[("after", path)] = set(behind_block(path[:-1]) if last else facts[
                ("before", path[:-1] + (path[-1] + 1,))])
            facts[("before", path)] = set(told(path, command))
    return {path: facts[("after", path)] for path in commands}


def slow_read(term):
    return {part[1] for _, part in slow_terms_in(term, ()) if part[0] == "name"}


def slow_kind(program, path, places):
    """The term or command at a path, None if there is none."""
    return at_path(program, path) if path in places else None


def slow_steps(program, places):
    """The set of all simplifying steps; `places` are the paths of all terms and commands."""
    steps = set()
    for path in sub_paths(program):
        thing = slow_kind(program, path, places)
        if thing is None:
            continue
        function = program[path[0]]
        whole = list(sub_paths(function, path[:1]))
        if thing[0] == "when" and thing[1][0] in ("word", "put"):
            steps.add(("choice", path))
        if thing[0] == "name":
            assert thing[1] in set().union(*slow_scope(program, path))
            for other in whole:
                command = slow_kind(program, other, places)
                if command and command[0] == "let" and command[1] == thing[1] and command[2][0] == "name":
                    steps.add(("copy", path))
        if slow_is_dead(program, path, thing, [slow_kind(program, other, places) for other in whole]):
            steps.add(("dead", path))
        if thing[0] in ("put", "cut") and {part[0] for _, part in slow_terms_in(thing, ())} <= {"put", "cut", "word"}:
            steps.add(("known", path))
        if thing[0] == "cut" and thing[1][0] == "put":
            steps.add(("same", path))
    return steps


def slow_is_dead(program, path, thing, things):
    if thing[0] == "let":
        return not any(other and other[0] in ("name", "each") and other[1] == thing[1] for other in things)
    if thing[0] == "set":
        return not slow_needed(program, path[0])[path] & set(thing[1])
    if thing[0] == "when":
        return thing[2] == thing[3] == thing[4] == ()
    return thing[0] == "each" and thing[4] == ()
