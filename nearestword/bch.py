"""BCH codes, and the minimal polynomials that make them."""

from nearestword.cyclic import CyclicCode
from nearestword.errors import InvalidCode, TooManyErrors
from nearestword.evaluation import EvaluationCode
from nearestword.fields import standard_field
from nearestword.limits import require_between, require_length
from nearestword.polynomials import poly_evaluate, poly_from_roots, poly_multiply, poly_trim
from nearestword.words import is_word, require_received, require_word


def _conjugates(field, element):
    """The different elements that are the element raised to the prime again and again."""
    found = [element]
    following = field.power(element, field.prime)
    while following != element:
        found.append(following)
        following = field.power(following, field.prime)
    return found


def minimal_polynomial(field, element):
    """The monic polynomial of the least degree, with coefficients below the prime, with this root."""
    return poly_from_roots(field, _conjugates(field, element))


def _generator_with(field, roots):
    """The least common multiple of the minimal polynomials of the elements."""
    generator = [1]
    for root in roots:
        # Different minimal polynomials have no common root, and none has a root twice.
        if poly_evaluate(field, generator, root) != 0:
            generator = poly_multiply(field, generator, minimal_polynomial(field, root))
    return generator


class BchCode:
    """The cyclic code with some powers of the root as roots of its words' polynomials."""

    def __init__(self, field, length, distance):
        require_length(length)
        if (field.order - 1) % length != 0:
            raise InvalidCode("the length does not divide the order of the field minus 1")
        require_between("distance", distance, 1, length)
        self.field = field
        self.base = standard_field(field.prime)
        self.length = length
        self.distance = distance
        self.root = field.power(field.primitive_element(), (field.order - 1) // length)
        powers = [field.power(self.root, exponent) for exponent in range(length)]
        self._roots = powers[1:distance]
        self._generator = _generator_with(field, self._roots)
        self._cyclic = CyclicCode(self.base, length, self._generator)
        self.dimension = self._cyclic.dimension
        # The words over the whole field with the same roots are the values of the polynomials of a degree
        # of at most length - distance, at the powers of the root.
        self._wider = EvaluationCode(field, powers, length - distance + 1)

    @property
    def generator(self):
        """The generator, the constant first."""
        return list(self._generator)

    def word_for(self, message):
        """The word of the code that ends with the message."""
        return self._cyclic.word_for(message)

    def contains(self, word):
        """Tells whether the word is in the code."""
        return self._cyclic.contains(word)

    def message_of(self, word):
        """The message of a word of the code."""
        return self._cyclic.message_of(word)

    def linear(self):
        """The linear code with the same words."""
        return self._cyclic.linear()

    def syndromes(self, word):
        """The values of the word's polynomial at the roots."""
        require_word(self.base, self.length, word)
        poly = poly_trim(word)
        return [poly_evaluate(self.field, poly, root) for root in self._roots]

    def mended(self, erased):
        """The number of errors that are mended beside so many erased positions."""
        return (self.distance - 1 - erased) // 2

    def corrected(self, received):
        """The word of the code that has at most as many errors as are mended."""
        require_received(self.base, self.length, received)
        # The wider code mends as many errors, so it finds the word if there is one.
        word = self._wider.corrected(received)
        if not is_word(self.base, self.length, word):
            raise TooManyErrors("no word of the code is near enough")
        return word
