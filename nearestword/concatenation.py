"""Concatenated codes: the items of the words of an outer code are replaced by words of an inner code."""

from nearestword.distances import minimum_distance
from nearestword.doubts import cost_beside, doubt_among, thresholds_of
from nearestword.errors import InvalidCode, TooManyErrors
from nearestword.fields import int_power
from nearestword.limits import require_length
from nearestword.linear import LinearCode
from nearestword.words import require_received, require_word, zero_word


def _require_parts(outer, inner):
    """Raises InvalidCode if the two codes do not fit together."""
    if inner.field.prime != outer.field.prime or inner.field.degree != 1:
        raise InvalidCode("the field of the inner code has not the prime of the outer one and the degree 1")
    if inner.dimension != outer.field.degree:
        raise InvalidCode("the dimension of the inner code is not the degree of the outer code's field")
    require_length(outer.length * inner.length)


def _elements_below(judged, threshold):
    """The elements as which the blocks are judged, None where the doubt is not below the threshold."""
    return [element if doubt < threshold else None for element, doubt in judged]


class ConcatenatedCode:
    """The code whose words have a word of the inner code for each item of a word of the outer code."""

    def __init__(self, outer, inner):
        _require_parts(outer, inner)
        self.outer = outer
        self.inner = inner
        self.field = inner.field
        self.length = outer.length * inner.length
        self.dimension = outer.field.degree * outer.dimension
        self._inner_distance = minimum_distance(inner)
        self.distance = self._inner_distance * (outer.length - outer.dimension + 1)

    def _blocks_of(self, word):
        """The blocks, one for each item of the outer word."""
        size = self.inner.length
        return [word[at:at + size] for at in range(0, self.length, size)]

    def _word_with(self, outer_word):
        """The word that is made from a word of the outer code."""
        blocks = [self.inner.word_for(self.outer.field.digits(item)) for item in outer_word]
        return [item for block in blocks for item in block]

    def _element_of(self, block):
        """The element that a word of the inner code stands for."""
        return self.outer.field.element(self.inner.message_of(block))

    def word_for(self, message):
        """The word of a message of the outer code."""
        return self._word_with(self.outer.word_for(message))

    def message_of(self, word):
        """The message of the outer code from which the word is made."""
        require_word(self.field, self.length, word)
        return self.outer.message_of([self._element_of(block) for block in self._blocks_of(word)])

    def contains(self, word):
        """Tells whether the word is made from a message of the outer code."""
        require_word(self.field, self.length, word)
        blocks = self._blocks_of(word)
        if not all([self.inner.contains(block) for block in blocks]):
            return False
        return self.outer.contains([self._element_of(block) for block in blocks])

    def linear(self):
        """The linear code with the same words."""
        rows = []
        for at in range(self.outer.dimension):
            for place in range(self.outer.field.degree):
                message = zero_word(self.outer.dimension)
                # The element with the digit 1 at this place.
                message[at] = int_power(self.field.prime, place)
                rows.append(self.word_for(message))
        return LinearCode(self.field, self.length, rows)

    def mended(self, erased):
        """The number of errors that are corrected beside so many erased positions."""
        return (self.distance - 1 - erased) // 2

    def judged(self, received):
        """For each block the element of the inner word within reach, None if there is none, and the doubt."""
        require_received(self.field, self.length, received)
        words = self.inner.words()
        found = []
        for block in self._blocks_of(received):
            word, doubt = doubt_among(words, self._inner_distance, block)
            found.append((None if word is None else self._element_of(word), doubt))
        return found

    def outer_received(self, received, threshold):
        """The outer received word for the threshold."""
        return _elements_below(self.judged(received), threshold)

    def corrected(self, received):
        """The word whose cost is below the distance."""
        judged = self.judged(received)
        # If there is such a word, the outer code finds it with one of the thresholds: the sum over all of them
        # of twice the wrong elements plus the erased ones is at most the cost.
        for threshold in thresholds_of([doubt for _, doubt in judged], self._inner_distance):
            word = self._word_near(_elements_below(judged, threshold))
            if word is not None and cost_beside(word, received) < self.distance:
                return word
        raise TooManyErrors("no word of the code is near enough")

    def _word_near(self, outer_received):
        """The word to which the outer code corrects what it receives, None if it finds none."""
        try:
            outer_word = self.outer.corrected(outer_received)
        except TooManyErrors:
            return None
        return self._word_with(outer_word)
