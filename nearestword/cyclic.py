"""Cyclic codes."""

from nearestword.errors import InvalidCode, NotInCode
from nearestword.limits import require_length
from nearestword.linear import LinearCode
from nearestword.polynomials import degree_of, poly_divide, poly_factors, poly_multiply, poly_trim
from nearestword.words import require_word


def _full_circle(field, length):
    """The polynomial x ** length - 1."""
    return [field.negative(1)] + [0] * (length - 1) + [1]


class CyclicCode:
    """The code of the words whose polynomials are divisible by the generator."""

    def __init__(self, field, length, generator):
        require_length(length)
        if generator == [] or generator[-1] != 1:
            raise InvalidCode("the generator is not monic")
        quotient, remainder = poly_divide(field, _full_circle(field, length), generator)
        if remainder != []:
            raise InvalidCode("the generator does not divide x ** length - 1")
        self.field = field
        self.length = length
        self.dimension = length - degree_of(generator)
        self._generator = list(generator)
        self._check_polynomial = quotient

    @property
    def generator(self):
        """The generator, the constant first."""
        return list(self._generator)

    @property
    def check_polynomial(self):
        """The quotient of x ** length - 1 and the generator."""
        return list(self._check_polynomial)

    def _remainder(self, items):
        """The remainder of the polynomial of a word, with as many items as the generator's degree."""
        _, remainder = poly_divide(self.field, poly_trim(items), self._generator)
        return remainder + [0] * (self.length - self.dimension - len(remainder))

    def word_for(self, message):
        """The word of the code that ends with the message."""
        require_word(self.field, self.dimension, message)
        remainder = self._remainder([0] * (self.length - self.dimension) + message)
        return self.field.multiple(self.field.negative(1), remainder) + message

    def contains(self, word):
        """Tells whether the word is in the code."""
        require_word(self.field, self.length, word)
        return not any(self._remainder(word))

    def message_of(self, word):
        """The message of a word of the code."""
        if not self.contains(word):
            raise NotInCode("the word does not belong to the code")
        return word[self.length - self.dimension:]

    def shifted(self, word, by):
        """The word with each item moved by so many positions, around the end."""
        require_word(self.field, self.length, word)
        start = -by % self.length
        return word[start:] + word[:start]

    def linear(self):
        """The linear code with the same words."""
        many = self.dimension
        rows = [[0] * at + self._generator + [0] * (many - 1 - at) for at in range(many)]
        return LinearCode(self.field, self.length, rows)


def _place_of(poly):
    """What orders polynomials: the degree, then the coefficients from the highest one down."""
    return (degree_of(poly), poly[::-1])


def cyclic_generators(field, length):
    """All generators of cyclic codes of the length, in ascending order."""
    require_length(length)
    generators = [[1]]
    # Finding the factors has the same limit as this function, and raises the same error beyond it.
    for factor, count in poly_factors(field, _full_circle(field, length)):
        grown = generators
        for _ in range(count):
            grown = [poly_multiply(field, poly, factor) for poly in grown]
            generators = generators + grown
    return sorted(generators, key=_place_of)
