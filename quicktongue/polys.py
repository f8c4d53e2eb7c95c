"""Polynomials over k lengths: what they are, and how to work with them."""

from quicktongue.errors import BadInputs, BadPoly
from quicktongue.kinds import is_whole
from quicktongue.polywork import fits_poly, greater_of, product_of, put_in_parts, short_exponents, sum_of, value_at


def is_poly(k, thing):
    """Whether any value is a polynomial over k lengths."""
    return fits_poly(k, thing)


def poly_value(k, poly, lengths):
    """The value of a polynomial at k lengths."""
    require_polys(k, (poly,))
    if not isinstance(lengths, tuple) or len(lengths) != k or not all(is_whole(part) for part in lengths):
        raise BadInputs(lengths)
    return value_at(poly, lengths)


def poly_sum(k, one, other):
    """The sum of two polynomials."""
    require_polys(k, (one, other))
    return sum_of(one, other)


def poly_product(k, one, other):
    """The product of two polynomials."""
    require_polys(k, (one, other))
    return product_of(one, other)


def poly_greater(k, one, other):
    """The polynomial that has for each exponents the greater coefficient of two polynomials."""
    require_polys(k, (one, other))
    return greater_of(one, other)


def is_at_most(k, one, other):
    """Whether no coefficient of a polynomial is above that of another one."""
    require_polys(k, (one, other))
    return not short_exponents(one, other)


def put_in(k, poly, m, parts):
    """A polynomial over k lengths with k polynomials over m lengths in their place."""
    require_polys(k, (poly,))
    if not isinstance(parts, tuple) or len(parts) != k or not all(fits_poly(m, part) for part in parts):
        raise BadPoly(parts)
    return put_in_parts(poly, m, parts)


def require_polys(k, things):
    """Raises BadPoly for the first of some values that is not a polynomial over k lengths."""
    for thing in things:
        if not fits_poly(k, thing):
            raise BadPoly(thing)
