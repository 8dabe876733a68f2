"""Judging answers about nearest words, and radii within which an answer may not be the only one."""

from nearestword.distances import lightest_words
from nearestword.nearest import nearest
from nearestword.words import errors_beside, is_word, require_received, support_of, weight_of, zero_word


def check_nearest(code, received, distance, words):
    """Tells whether this is the answer of `nearest`."""
    return nearest(code, received) == (distance, words)


def check_within(code, received, word, radius):
    """Tells whether the list is a word of the code at a distance of at most the radius."""
    require_received(code.field, code.length, received)
    if not is_word(code.field, code.length, word):
        return False
    return code.contains(word) and errors_beside(word, received) <= radius


def is_safe(code, radius):
    """Tells whether no word has two words of the code within the radius."""
    return conflict(code, radius) is None


def conflict(code, radius):
    """A word that has two words of the code within the radius, behind these two; None if there is none."""
    lightest = lightest_words(code)
    if not lightest or 2 * radius < weight_of(lightest[0]):
        return None
    second = lightest[0]
    near = support_of(second)[:radius]
    between = [item if at in near else 0 for at, item in enumerate(second)]
    return (zero_word(code.length), second, between)
