"""Polynomials over a field: lists of coefficients, the constant first, the last one not 0."""

from nearestword.errors import InvalidPoints, ZeroPolynomial
from nearestword.fields import int_power
from nearestword.limits import require_few
from nearestword.words import all_words


def degree_of(poly):
    """The degree, which is -1 for the zero polynomial."""
    return len(poly) - 1


def poly_trim(items):
    """The polynomial of a list of coefficients that may have zeros at its end."""
    many = len(items)
    while many > 0 and items[many - 1] == 0:
        many -= 1
    return items[:many]


def _plus_multiple(field, a, factor, b):
    """The polynomial `a` plus the multiple of `b` by the factor."""
    size = max(len(a), len(b))
    first = a + [0] * (size - len(a))
    second = b + [0] * (size - len(b))
    return poly_trim(field.plus_multiple(first, factor, second))


def poly_add(field, a, b):
    """The sum of two polynomials."""
    return _plus_multiple(field, a, 1, b)


def poly_subtract(field, a, b):
    """The difference of two polynomials."""
    return _plus_multiple(field, a, field.negative(1), b)


def poly_multiply(field, a, b):
    """The product of two polynomials."""
    result = [0] * (len(a) + len(b))
    for at, factor in enumerate(a):
        end = at + len(b)
        result[at:end] = field.plus_multiple(result[at:end], factor, b)
    return poly_trim(result)


def poly_scale(field, poly, factor):
    """The polynomial multiplied by an element."""
    return poly_trim(field.multiple(factor, poly))


def _require_not_zero(poly):
    """Raises ZeroPolynomial for the zero polynomial."""
    if poly == []:
        raise ZeroPolynomial("the zero polynomial is no divisor and has no roots and no factors")


def poly_divide(field, poly, divisor):
    """The quotient and the remainder."""
    _require_not_zero(divisor)
    below = divisor[:-1]
    inverse = field.inverse(divisor[-1])
    rest = list(poly)
    quotient = []
    while len(rest) > len(below):
        factor = field.times(rest.pop(), inverse)
        quotient.append(factor)
        start = len(rest) - len(below)
        rest[start:] = field.plus_multiple(rest[start:], field.negative(factor), below)
    return (quotient[::-1], poly_trim(rest))


def poly_gcd(field, a, b):
    """The greatest common divisor, which is monic, or [] if both are zero."""
    return poly_bezout(field, a, b)[0]


def poly_bezout(field, a, b):
    """The greatest common divisor g, and u and v such that u * a + v * b is g."""
    last = (a, [1], [])
    following = (b, [], [1])
    while following[0] != []:
        quotient, remainder = poly_divide(field, last[0], following[0])
        u = poly_subtract(field, last[1], poly_multiply(field, quotient, following[1]))
        v = poly_subtract(field, last[2], poly_multiply(field, quotient, following[2]))
        last = following
        following = (remainder, u, v)
    divisor, u, v = last
    if divisor == []:
        return ([], [], [])
    factor = field.inverse(divisor[-1])
    return (poly_scale(field, divisor, factor), poly_scale(field, u, factor), poly_scale(field, v, factor))


def poly_evaluate(field, poly, point):
    """The value of the polynomial at the point."""
    value = 0
    for coefficient in reversed(poly):
        value = field.plus(field.times(value, point), coefficient)
    return value


def poly_derivative(field, poly):
    """The derivative."""
    items = [field.times(at % field.prime, coefficient) for at, coefficient in enumerate(poly)]
    return poly_trim(items[1:])


def poly_roots(field, poly):
    """The roots in ascending order, each one once."""
    _require_not_zero(poly)
    return [point for point in field.all_elements() if poly_evaluate(field, poly, point) == 0]


def poly_from_roots(field, roots):
    """The product of the polynomials x - root for all items of the list."""
    poly = [1]
    for root in roots:
        poly = poly_multiply(field, poly, [field.negative(root), 1])
    return poly


def interpolate(field, points, values):
    """The polynomial of a degree below the number of points that has the values at the points."""
    if len(points) != len(values):
        raise InvalidPoints("there are not as many values as points")
    if len(set(points)) != len(points):
        raise InvalidPoints("two points are the same")
    poly = []
    # It is zero at all points so far, so its multiples can be added without harm to them.
    vanishing = [1]
    for point, value in zip(points, values):
        missing = field.minus(value, poly_evaluate(field, poly, point))
        factor = field.over(missing, poly_evaluate(field, vanishing, point))
        poly = _plus_multiple(field, poly, factor, vanishing)
        vanishing = poly_multiply(field, vanishing, [field.negative(point), 1])
    return poly


def _divided_out(field, poly, divisor):
    """How often the divisor divides the polynomial, and what remains of it then."""
    count = 0
    rest = poly
    quotient, remainder = poly_divide(field, rest, divisor)
    while remainder == []:
        count += 1
        rest = quotient
        quotient, remainder = poly_divide(field, rest, divisor)
    return (count, rest)


def _factors_of_degree(field, poly, degree):
    """The factors of the degree with their counts, and what remains without them."""
    found = []
    rest = poly
    for word in all_words(field, degree):
        # A word has the highest coefficient first, so that the polynomials ascend as the words do.
        factor = word[::-1] + [1]
        count, rest = _divided_out(field, rest, factor)
        if count > 0:
            found.append((factor, count))
        if degree_of(rest) < 2 * degree:
            break
    return (found, rest)


def poly_factors(field, poly):
    """The monic irreducible factors in ascending order, each one with its count."""
    _require_not_zero(poly)
    require_few(int_power(field.order, degree_of(poly) // 2))
    rest = poly_scale(field, poly, field.inverse(poly[-1]))
    factors = []
    degree = 1
    # What has no factor of at most half of its degree is irreducible.
    while degree_of(rest) >= 2 * degree:
        found, rest = _factors_of_degree(field, rest, degree)
        factors = factors + found
        degree += 1
    if degree_of(rest) > 0:
        factors.append((rest, 1))
    return factors
