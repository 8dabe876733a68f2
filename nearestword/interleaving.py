"""Interleaving, and codes whose words are interleaved words of an evaluation code."""

from nearestword.errors import InvalidWord
from nearestword.limits import require_length
from nearestword.linear import LinearCode
from nearestword.words import require_received, require_word, zero_word


def interleave(words):
    """The first items of all words, then their second items, and so on."""
    if not words:
        raise InvalidWord("there are no words")
    length = len(words[0])
    if any(len(word) != length for word in words):
        raise InvalidWord("the words have different lengths")
    return [word[at] for at in range(length) for word in words]


def spread(word, depth):
    """The words of which the given one is interleaved."""
    if depth < 1 or len(word) % depth != 0:
        raise InvalidWord("the depth is below 1 or does not divide the length")
    return [word[start::depth] for start in range(depth)]


class InterleavedCode:
    """The code whose words are made of as many words of another code as the depth."""

    def __init__(self, code, depth):
        # A depth below 1 makes a length below 1.
        require_length(depth * code.length)
        self.code = code
        self.depth = depth
        self.field = code.field
        self.length = depth * code.length
        self.burst_mended = depth * code.mended(0)
        self.burst_filled = depth * (code.length - code.dimension)

    def _parts_of(self, word):
        """The parts of a word of the code's length."""
        require_word(self.field, self.length, word)
        return spread(word, self.depth)

    def word_for(self, messages):
        """The interleaved words of the messages."""
        if len(messages) != self.depth:
            raise InvalidWord(f"there are not {self.depth} messages")
        return interleave([self.code.word_for(message) for message in messages])

    def messages_of(self, word):
        """The messages of the parts."""
        return [self.code.message_of(part) for part in self._parts_of(word)]

    def contains(self, word):
        """Tells whether every part is a word of the code."""
        return all([self.code.contains(part) for part in self._parts_of(word)])

    def corrected(self, received):
        """The word that is made of the corrected parts."""
        require_received(self.field, self.length, received)
        return interleave([self.code.corrected(part) for part in spread(received, self.depth)])

    def linear(self):
        """The linear code with the same words."""
        zero = zero_word(self.code.length)
        rows = [
            interleave([zero] * at + [row] + [zero] * (self.depth - 1 - at))
            for row in self.code.linear().rows
            for at in range(self.depth)
        ]
        return LinearCode(self.field, self.length, rows)
