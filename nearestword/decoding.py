"""Decoders with a table of leaders, and with linear equations."""

from nearestword.cosets import leaders
from nearestword.enumerators import vanishing_dimension
from nearestword.errors import Ambiguous, TooManyErrors, Undetermined
from nearestword.matrices import solve
from nearestword.words import erased_positions, require_received, weight_of


class SyndromeDecoder:
    """Finds the nearest words of words without erased positions."""

    def __init__(self, code):
        self.code = code
        self._leaders = {syndrome: words for syndrome, words in leaders(code)}

    def leaders_of(self, word):
        """The leaders of the word, in ascending order."""
        syndrome = tuple(self.code.syndrome(word))
        return [list(leader) for leader in self._leaders[syndrome]]

    def nearest(self, word):
        """The least distance of a word of the code, and the words at that distance."""
        field = self.code.field
        lightest = self.leaders_of(word)
        words = [field.plus_multiple(word, field.negative(1), leader) for leader in lightest]
        return (weight_of(lightest[0]), sorted(words))

    def corrected(self, word):
        """The only nearest word."""
        _, words = self.nearest(word)
        if len(words) > 1:
            raise Ambiguous(words)
        return words[0]


class ErasureDecoder:
    """Fills in the erased positions of received words without errors."""

    def __init__(self, code):
        self.code = code

    def _others(self, positions):
        """The positions of the code that are not among the given ones."""
        return [at for at in range(self.code.length) if at not in positions]

    def can_fill(self, positions):
        """Tells whether the positions can be filled, whatever the word is."""
        return vanishing_dimension(self.code, self._others(positions)) == 0

    def filled(self, received):
        """The word of the code that agrees with the received word where it is not erased."""
        code = self.code
        require_received(code.field, code.length, received)
        erased = erased_positions(received)
        rows = code.rows
        # The message is unknown; each position that is not erased gives one equation for it.
        known = self._others(erased)
        equations = [[row[at] for row in rows] for at in known]
        message = solve(code.field, equations, code.dimension, [received[at] for at in known])
        if message is None:
            raise TooManyErrors("no word of the code agrees with the received word")
        if not self.can_fill(erased):
            raise Undetermined("several words of the code agree with the received word")
        return code.word_for(message)
