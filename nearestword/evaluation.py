"""Codes of the values of polynomials at given points."""

from nearestword.errors import InvalidCode, NotInCode, TooManyErrors
from nearestword.keyequation import key_equation
from nearestword.limits import GREATEST_LENGTH, require_between
from nearestword.linear import LinearCode
from nearestword.polynomials import degree_of, interpolate, poly_divide, poly_evaluate, poly_from_roots, poly_trim
from nearestword.words import is_word, require_received, require_word


def _require_points(field, points):
    """Raises InvalidCode if the points are not different elements, from 1 to 255 of them."""
    require_between("number of points", len(points), 1, GREATEST_LENGTH)
    if not is_word(field, len(points), points):
        raise InvalidCode("a point is not an element of the field")
    if len(set(points)) != len(points):
        raise InvalidCode("two points are the same")


class EvaluationCode:
    """The code whose words have the values of polynomials of low degree at the points."""

    def __init__(self, field, points, dimension):
        _require_points(field, points)
        require_between("dimension", dimension, 1, len(points))
        self.field = field
        self.length = len(points)
        self.dimension = dimension
        self._points = list(points)

    @property
    def points(self):
        """The points, one for each position."""
        return list(self._points)

    def _values_of(self, poly):
        """The values of the polynomial at the points."""
        return [poly_evaluate(self.field, poly, point) for point in self._points]

    def _message_with(self, poly):
        """The message with the coefficients of the polynomial, whose degree is below the dimension."""
        return poly + [0] * (self.dimension - len(poly))

    def _polynomial_of(self, word):
        """The polynomial of the least degree that has the items of the word as its values."""
        require_word(self.field, self.length, word)
        return interpolate(self.field, self._points, word)

    def word_for(self, message):
        """The word for the message."""
        require_word(self.field, self.dimension, message)
        return self._values_of(poly_trim(message))

    def contains(self, word):
        """Tells whether the word is in the code."""
        return degree_of(self._polynomial_of(word)) < self.dimension

    def message_of(self, word):
        """The message of a word of the code."""
        poly = self._polynomial_of(word)
        if degree_of(poly) >= self.dimension:
            raise NotInCode("the word does not belong to the code")
        return self._message_with(poly)

    def linear(self):
        """The linear code with the same words."""
        powers = [[0] * exponent + [1] for exponent in range(self.dimension)]
        return LinearCode(self.field, self.length, [self._values_of(power) for power in powers])

    def mended(self, erased):
        """The number of errors that are mended beside so many erased positions."""
        return (self.length - erased - self.dimension) // 2

    def _decoded(self, received):
        """The polynomial of the corrected word."""
        require_received(self.field, self.length, received)
        known = [at for at, item in enumerate(received) if item is not None]
        errors = self.mended(self.length - len(known))
        if errors < 0:
            raise TooManyErrors("too few positions are left")
        points = [self._points[at] for at in known]
        value = interpolate(self.field, points, [received[at] for at in known])
        vanishing = poly_from_roots(self.field, points)
        # For the polynomial f of the corrected word, and e with the roots at its errors, the key equation
        # has the solution (f * e, e); by its uniqueness, f is the quotient of every solution.
        top, bottom = key_equation(self.field, vanishing, value, len(known) - errors)
        poly, remainder = poly_divide(self.field, top, bottom)
        # What is received differs from the values of such a quotient only at the roots of the bottom,
        # whose degree is at most the number of errors that are mended.
        if remainder != [] or degree_of(poly) >= self.dimension:
            raise TooManyErrors("no word of the code is near enough")
        return poly

    def corrected(self, received):
        """The word of the code that has at most as many errors as are mended."""
        return self._values_of(self._decoded(received))

    def message_for(self, received):
        """The message of the corrected word."""
        return self._message_with(self._decoded(received))

    def error_locator(self, received):
        """The monic polynomial whose roots are the points of the errors."""
        word = self.corrected(received)
        wrong = [
            point for point, item, told in zip(self._points, word, received)
            if told is not None and told != item
        ]
        return poly_from_roots(self.field, wrong)
