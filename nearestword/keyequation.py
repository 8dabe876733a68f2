"""The key equation, and the shortest registers of sequences."""

from nearestword.errors import ZeroPolynomial
from nearestword.polynomials import degree_of, poly_divide, poly_multiply, poly_scale, poly_subtract


def key_equation(field, modulus, value, bound):
    """The first row of the long division, from the second one on, whose top is below the bound."""
    if modulus == []:
        raise ZeroPolynomial("the modulus is zero")
    before = (modulus, [])
    last = (value, [1])
    while degree_of(last[0]) >= bound:
        quotient, remainder = poly_divide(field, before[0], last[0])
        bottom = poly_subtract(field, before[1], poly_multiply(field, quotient, last[1]))
        before = last
        last = (remainder, bottom)
    top, bottom = last
    factor = field.inverse(bottom[-1])
    return (poly_scale(field, top, factor), poly_scale(field, bottom, factor))


def _miss(field, poly, sequence, at):
    """The sum that a register with the polynomial makes 0 at the position."""
    recent = sequence[at + 1 - len(poly):at + 1]
    return field.dot(poly, recent[::-1])


def shortest_register(field, sequence):
    """The polynomial and the length of a shortest register."""
    poly, length = [1], 0
    # The last register that was too short, what it missed, and how many positions ago that was.
    short, missed, ago = [1], 1, 1
    for at in range(len(sequence)):
        miss = _miss(field, poly, sequence, at)
        if miss != 0:
            factor = field.over(miss, missed)
            corrected = poly_subtract(field, poly, [0] * ago + poly_scale(field, short, factor))
            if 2 * length <= at:
                short, missed, ago = poly, miss, 0
                length = at + 1 - length
            poly = corrected
        ago += 1
    return (poly, length)
