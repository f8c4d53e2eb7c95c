"""The functions of the programs that are made for pile machines.

The soft names s, a and b hold the state, the left pile and the right pile. Each
state has a word of its own, and the last word stands for halted.
"""

PILES = ("a", "b")
ALL = ("s", "a", "b")


def state_words(many):
    """The list of so many words; the first one is empty, as an own name is at the beginning."""
    words = [""]
    at = 0
    while len(words) < many:
        words.append(words[at] + "0")
        words.append(words[at] + "1")
        at += 1
    return words[:many]


def name_term(name):
    """The term that reads a name."""
    return ("name", name)


def name_terms(names):
    """The tuple of the terms that read some names."""
    return tuple([name_term(name) for name in names])


def set_name(name, term):
    """The command that sets a name."""
    return ("set", (name,), term)


def set_all(function, softs):
    """The command that sets the state and the piles by a call of a function with such soft names as arguments."""
    return ("set", ALL, ("call", function, (), name_terms(softs)))


def state_function(at, state, words):
    """The function of the state at a position: the state and the piles after its rule was applied to the piles."""
    blocks = [rule_block(rule, letter, words) for rule, letter in zip(state, ("", "0", "1"))]
    choice = ("when", name_term("a")) + tuple(blocks)
    return ("fun", function_of_state(at), (), PILES, ("s",), (choice,), name_terms(ALL))


def function_of_state(at):
    """The name of the function of the state at a position."""
    return "state" + str(at)


def rule_block(rule, letter, words):
    """The block that applies a rule where the left pile has such a last letter, or none."""
    number, deed = rule
    return (set_name("s", ("word", words[number])),) + deed_block(deed, letter)


def deed_block(deed, letter):
    """The block that does a deed where the left pile has such a last letter, or none."""
    if deed in ("put0", "put1"):
        return (set_name("a", ("put", name_term("a"), deed[-1])),)
    if deed == "back":
        return (("when", name_term("b"), (), moved("0", "b", "a"), moved("1", "b", "a")),)
    if deed == "over" and letter:
        return moved(letter, "a", "b")
    if deed == "cut" and letter:
        return (set_name("a", ("cut", name_term("a"))),)
    return ()


def moved(letter, pile, other):
    """The block that moves a pile's last letter, which is known, to the other pile."""
    return (set_name(other, ("put", name_term(other), letter)), set_name(pile, ("cut", name_term(pile))))


def step_function(words):
    """The function that does a step: it looks at the last letters of the state's word to find its function."""
    return ("fun", "step", (), ALL, (), state_block("", words), name_terms(ALL))


def state_block(ending, words):
    """The block that does a step where the state's word is known to end with some letters."""
    found = [at for at, word in enumerate(words) if word.endswith(ending)]
    if len(found) < 2:
        return call_block(found, words)
    term = name_term("s")
    for _ in ending:
        term = ("cut", term)
    none = call_block([at for at in found if words[at] == ending], words)
    return (("when", term, none, state_block("0" + ending, words), state_block("1" + ending, words)),)


def call_block(found, words):
    """The block that calls the function of a state that is found, if there is one and it is not halted."""
    return tuple([set_all(function_of_state(at), PILES) for at in found if at < len(words) - 1])


def main_function(c, d):
    """The last function: it does as many steps as the clock (c, d) tells."""
    step = set_all("step", ALL)
    first = set_name("a", name_term("x"))
    more = (("let", "e", ("word", "1" * d)), ("each", "e", "r", "l", (step,)))
    return ("fun", "machine", ("x",), (), ALL, (first,) + clock_rounds(c, (step,)) + more, (name_term("a"),))


def clock_rounds(c, block):
    """The block that executes a block n ** c times, n being the number of the letters that x holds."""
    for at in range(c):
        block = (("each", "x", "r" + str(at), "l" + str(at), block),)
    return block
