"""Working with polynomials over any number of lengths, which are taken to be right."""

from quicktongue.kinds import is_whole

ZERO = ()


def fits_poly(k, thing):
    """Whether any value is a polynomial over k lengths."""
    if not isinstance(thing, tuple) or not all(fits_pair(k, part) for part in thing):
        return False
    return all(thing[at - 1][0] < thing[at][0] for at in range(1, len(thing)))


def fits_pair(k, thing):
    """Whether any value is a pair of k exponents and a coefficient."""
    if not isinstance(thing, tuple) or len(thing) != 2 or not isinstance(thing[0], tuple):
        return False
    return len(thing[0]) == k and all(is_whole(part) for part in thing[0]) and is_whole(thing[1]) and thing[1] > 0


def poly_of(table):
    """The polynomial with the coefficients, all above 0, that a dict has for exponents."""
    return tuple(sorted(table.items()))


def constant(k, number):
    """The polynomial over k lengths that is the same number everywhere."""
    return (((0,) * k, number),) if number else ZERO


def single_length(k, at):
    """The polynomial over k lengths that is the length at a position itself."""
    exponents = (0,) * at + (1,) + (0,) * (k - at - 1)
    return ((exponents, 1),)


def sum_of(one, other):
    """The sum of two polynomials."""
    table = dict(one)
    for exponents, coefficient in other:
        table[exponents] = table.get(exponents, 0) + coefficient
    return poly_of(table)


def sum_of_all(polys):
    """The sum of any number of polynomials."""
    total = ZERO
    for poly in polys:
        total = sum_of(total, poly)
    return total


def product_of(one, other):
    """The product of two polynomials."""
    table = {}
    for first, times in one:
        for second, coefficient in other:
            exponents = tuple([a + b for a, b in zip(first, second)])
            table[exponents] = table.get(exponents, 0) + times * coefficient
    return poly_of(table)


def greater_of(one, other):
    """The greater of two polynomials, coefficient by coefficient."""
    table = dict(one)
    for exponents, coefficient in other:
        table[exponents] = max(table.get(exponents, 0), coefficient)
    return poly_of(table)


def greatest_of(polys):
    """The greatest of any number of polynomials, 0 if there are none."""
    greatest = ZERO
    for poly in polys:
        greatest = greater_of(greatest, poly)
    return greatest


def short_exponents(one, other):
    """The list of the exponents for which one polynomial has a greater coefficient than the other one."""
    table = dict(other)
    return [exponents for exponents, coefficient in one if coefficient > table.get(exponents, 0)]


def put_in_parts(poly, m, parts):
    """A polynomial with polynomials over m lengths in place of its lengths."""
    total = ZERO
    for exponents, coefficient in poly:
        product = constant(m, coefficient)
        for part, exponent in zip(parts, exponents):
            for _ in range(exponent):
                product = product_of(product, part)
        total = sum_of(total, product)
    return total


def value_at(poly, lengths):
    """The value of a polynomial at lengths."""
    total = 0
    for exponents, coefficient in poly:
        product = coefficient
        for length, exponent in zip(lengths, exponents):
            for _ in range(exponent):
                product = product * length
        total = total + product
    return total
