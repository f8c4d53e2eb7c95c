"""Running the functions of a program by its plain meaning."""


def in_order(term):
    """The list of a term and the terms in it, each one behind its own parts."""
    found = []
    waiting = [term]
    while waiting:
        part = waiting.pop()
        found.append(part)
        if part[0] in ("put", "cut"):
            waiting.append(part[1])
        elif part[0] == "call":
            waiting.extend(part[2] + part[3])
    found.reverse()
    return found


class Runner:
    """Runs functions of a program, and counts the steps of all that it runs.

    Blocks and terms are worked off without recursion, so that Python's calls
    are nested only as deep as those of the program.
    """

    def __init__(self, program):
        self.program = program
        self.positions = {function[1]: at for at, function in enumerate(program)}
        self.steps = 0

    def run_at(self, at, leads, softs, notes):
        """The list of the outcomes of the function at a position; notes takes (path, words) for each command."""
        function = self.program[at]
        held = {name: "" for name in function[4]}
        for name, word in zip(function[2] + function[3], leads + softs):
            held[name] = word
        self.execute(at, held, notes)
        outcomes = []
        for term in function[6]:
            outcomes.extend(self.outcomes_of(term, held))
        return outcomes

    def outcomes_of(self, term, held):
        """The list of the outcomes of a term: one word, but for a call of a function with several gives."""
        words = []
        for part in in_order(term):
            self.steps += 1
            kind = part[0]
            if kind == "name":
                words.append(held[part[1]])
            elif kind == "word":
                words.append(part[1])
            elif kind == "put":
                words.append(words.pop() + part[2])
            elif kind == "cut":
                words.append(words.pop()[:-1])
            else:
                middle = len(words) - len(part[3])
                first = middle - len(part[2])
                outcomes = self.run_at(self.positions[part[1]], words[first:middle], words[middle:], None)
                words = words[:first] + outcomes
        return words

    def execute(self, at, held, notes):
        """Executes the block of the function at a position, on what its names hold."""
        function = self.program[at]
        waiting = commands_of(function[5], (at, 5))
        while waiting:
            path, command, word = waiting.pop()
            if word:
                waiting.extend(self.begin_turn(path, command, word, held))
                continue
            if word is None:
                if notes is not None:
                    notes.append((path, tuple([held[name] for name in function[3] + function[4]])))
                waiting.extend(self.begin_command(path, command, held))

    def begin_command(self, path, command, held):
        """Does a let or a set, or begins a when or an each; the list of what waits to be executed then."""
        self.steps += 1
        kind = command[0]
        if kind == "each":
            return [(path, command, held[command[1]])]
        outcomes = self.outcomes_of(command[1] if kind == "when" else command[2], held)
        if kind == "let":
            held[command[1]] = outcomes[0]
        elif kind == "set":
            for name, word in zip(command[1], outcomes):
                held[name] = word
        else:
            branch = 2 if outcomes[0] == "" else 3 + int(outcomes[0][-1])
            return commands_of(command[branch], path + (branch,))
        return []

    def begin_turn(self, path, command, word, held):
        """Begins a turn of an each with what is left of its leader's word; the list of what waits then."""
        self.steps += 1
        rest = word[:-1]
        held[command[2]] = rest
        held[command[3]] = word[-1]
        return [(path, command, rest)] + commands_of(command[4], path + (4,))


def commands_of(block, path):
    """What waits to be executed for a block at a path, the first command last.

    Each one is a command with its path and None, or an each whose rounds have
    begun, with its path and the part of its leader's word that is left.
    """
    waiting = [(path + (at,), command, None) for at, command in enumerate(block)]
    waiting.reverse()
    return waiting
