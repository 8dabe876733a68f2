"""Linear codes."""

from nearestword.errors import InvalidCode, NotInCode
from nearestword.fields import int_power
from nearestword.limits import require_few, require_length
from nearestword.matrices import combine_rows, kernel, kernel_of_reduced, reduce_rows
from nearestword.words import is_word, require_word, zero_word


def _require_rows(field, length, rows):
    """Raises InvalidCode if the length is none of a code, or a row is not a word of it."""
    require_length(length)
    for row in rows:
        if not is_word(field, length, row):
            raise InvalidCode("a row is not a word of the code's length over the field")


class LinearCode:
    """The code whose words are all sums of multiples of the rows."""

    def __init__(self, field, length, rows):
        _require_rows(field, length, rows)
        self.field = field
        self.length = length
        self._rows, self._pivots = reduce_rows(field, rows)
        self.dimension = len(self._pivots)
        self._size = int_power(field.order, self.dimension)
        self._checks = kernel_of_reduced(field, self._rows, self._pivots, length)

    @property
    def rows(self):
        """The reduced rows."""
        return [list(row) for row in self._rows]

    @property
    def pivots(self):
        """The positions of the pivots."""
        return list(self._pivots)

    @property
    def checks(self):
        """The checks."""
        return [list(check) for check in self._checks]

    @property
    def size(self):
        """The number of words."""
        return self._size

    def word_for(self, message):
        """The word for the message."""
        require_word(self.field, self.dimension, message)
        return combine_rows(self.field, message, self._rows, self.length)

    def _word_with_pivots_of(self, word):
        """The word of the code that agrees with the given one at the pivots."""
        return self.word_for([word[pivot] for pivot in self._pivots])

    def contains(self, word):
        """Tells whether the word belongs to the code."""
        require_word(self.field, self.length, word)
        return self._word_with_pivots_of(word) == word

    def message_of(self, word):
        """The message of a word of the code."""
        if not self.contains(word):
            raise NotInCode("the word does not belong to the code")
        return [word[pivot] for pivot in self._pivots]

    def syndrome(self, word):
        """The syndrome of a word of the code's length."""
        require_word(self.field, self.length, word)
        # A check subtracts from the item at its position what the reduced rows put there.
        near = self._word_with_pivots_of(word)
        rest = self.field.plus_multiple(word, self.field.negative(1), near)
        return [item for at, item in enumerate(rest) if at not in self._pivots]

    def words(self):
        """All words of the code in ascending order."""
        require_few(self._size)
        found = [zero_word(self.length)]
        for row in reversed(self._rows):
            found = [
                self.field.plus_multiple(word, factor, row)
                for factor in self.field.all_elements()
                for word in found
            ]
        return found

    def same_as(self, other):
        """Tells whether the other code has the same length, field and words."""
        same_place = self.length == other.length and self.field.same_as(other.field)
        return same_place and self._rows == other.rows


def code_from_checks(field, length, checks):
    """The code of all words for which each check has the sum 0."""
    _require_rows(field, length, checks)
    return LinearCode(field, length, kernel(field, checks, length))
