"""The rules that give the two polynomials of a function from those of the functions that it calls."""

from quicktongue.polywork import ZERO, constant, greatest_of, product_of
from quicktongue.polywork import put_in_parts, single_length, sum_of, sum_of_all


def pair_by_rules(program, at, table):
    """The pair (q, p) of the function at a position, with the pairs that a table has for the earlier ones."""
    pairs = {function[1]: pair for function, pair in zip(program, table)}
    return Rules(program[at], pairs).pair()


class Rules:
    """The rules for one function; `pairs` has the pair of each function that it calls."""

    def __init__(self, function, pairs):
        self.function = function
        self.pairs = pairs
        self.many = len(function[2])
        # Only leading names have a size; the own names of a function are unlike, so one dict serves all blocks.
        self.sizes = {name: single_length(self.many, at) for at, name in enumerate(function[2])}

    def pair(self):
        """The pair (q, p) of the function."""
        growth, cost = self.of_block(self.function[5])
        gives = [self.of_term(term) for term in self.function[6]]
        q = sum_of(growth, greatest_of([give[0] for give in gives]))
        return q, sum_of_all([cost] + [give[1] for give in gives])

    def number(self, number):
        """The polynomial that is this number everywhere."""
        return constant(self.many, number)

    def one_more(self, poly):
        """The polynomial that is 1 more everywhere."""
        return sum_of(self.number(1), poly)

    def of_block(self, block):
        """The growth and the cost of a block."""
        pairs = [self.of_command(command) for command in block]
        return sum_of_all([pair[0] for pair in pairs]), sum_of_all([pair[1] for pair in pairs])

    def of_command(self, command):
        """The growth and the cost of a command; a let and an each also give sizes to their names."""
        kind = command[0]
        if kind == "when":
            return self.of_when(command)
        if kind == "each":
            return self.of_each(command)
        growth, cost = self.of_term(command[2])
        if kind == "let":
            self.sizes[command[1]] = growth
            growth = ZERO
        return growth, self.one_more(cost)

    def of_when(self, command):
        """The growth and the cost of a when."""
        cost = self.of_term(command[1])[1]
        blocks = [self.of_block(block) for block in command[2:]]
        greatest_cost = greatest_of([block[1] for block in blocks])
        return greatest_of([block[0] for block in blocks]), self.one_more(sum_of(cost, greatest_cost))

    def of_each(self, command):
        """The growth and the cost of an each."""
        size = self.sizes[command[1]]
        self.sizes[command[2]] = size
        self.sizes[command[3]] = self.number(1)
        growth, cost = self.of_block(command[4])
        return product_of(size, growth), self.one_more(product_of(size, self.one_more(cost)))

    def of_term(self, term):
        """The growth and the cost of a term."""
        kind = term[0]
        if kind == "name":
            return self.sizes.get(term[1], ZERO), self.number(1)
        if kind == "word":
            return self.number(len(term[1])), self.number(1)
        if kind == "call":
            return self.of_call(term)
        growth, cost = self.of_term(term[1])
        if kind == "put":
            growth = self.one_more(growth)
        return growth, self.one_more(cost)

    def of_call(self, term):
        """The growth and the cost of a call."""
        q, p = self.pairs[term[1]]
        leads = [self.of_term(lead) for lead in term[2]]
        softs = [self.of_term(soft) for soft in term[3]]
        sizes = [lead[0] for lead in leads]
        growth = sum_of(put_in_parts(q, self.many, sizes), greatest_of([soft[0] for soft in softs]))
        costs = sum_of_all([argument[1] for argument in leads + softs])
        return growth, self.one_more(sum_of(costs, put_in_parts(p, self.many, sizes)))
