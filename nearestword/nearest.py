"""The words of a code that are nearest to a received word, found by looking at every word."""

from nearestword.errors import Ambiguous, TooManyErrors
from nearestword.words import errors_beside, require_received


def _all_distances(code, received):
    """Pairs of the distance and the word, for all words of the code in ascending order."""
    require_received(code.field, code.length, received)
    return [(errors_beside(word, received), word) for word in code.words()]


def nearest(code, received):
    """The least distance of a word of the code, and the words at that distance."""
    pairs = _all_distances(code, received)
    least = min([distance for distance, _ in pairs])
    return (least, [word for distance, word in pairs if distance == least])


def within(code, received, radius):
    """Pairs of the distance and the word, for all words at a distance of at most the radius."""
    return sorted([pair for pair in _all_distances(code, received) if pair[0] <= radius])


def nearest_word(code, received):
    """The only nearest word."""
    _, words = nearest(code, received)
    if len(words) > 1:
        raise Ambiguous(words)
    return words[0]


def word_within(code, received, radius):
    """The only word at a distance of at most the radius."""
    words = [word for distance, word in _all_distances(code, received) if distance <= radius]
    if not words:
        raise TooManyErrors("no word of the code lies within the radius")
    if len(words) > 1:
        raise Ambiguous(words)
    return words[0]
