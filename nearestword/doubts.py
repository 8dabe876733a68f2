"""Costs of received words, and doubts about the words that are found for them."""

from nearestword.words import erased_positions, errors_beside, require_received


def cost_beside(word, received):
    """Twice the number of errors plus the number of erased positions."""
    return 2 * errors_beside(word, received) + len(erased_positions(received))


def doubt_among(words, distance, received):
    """The first word of the least cost, None if that is not below the distance, and the doubt."""
    errors = [errors_beside(word, received) for word in words]
    # The erased positions add as much to the cost beside each word.
    word = words[errors.index(min(errors))]
    cost = cost_beside(word, received)
    return (list(word), cost) if cost < distance else (None, distance)


def doubt(code, distance, received):
    """The word of the code of the least cost, None if that is not below the distance, and the doubt."""
    require_received(code.field, code.length, received)
    return doubt_among(code.words(), distance, received)


def kept(doubts, threshold):
    """The positions at which the doubt is below the threshold, in ascending order."""
    return [at for at, item in enumerate(doubts) if item < threshold]


def thresholds_of(doubts, distance):
    """The thresholds up to the distance that keep some positions, without those that keep the same ones."""
    return sorted({item + 1 for item in doubts if item < distance})
