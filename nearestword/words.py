"""Words and received words over a field."""

from nearestword.errors import InvalidWord


def weight_of(word):
    """The number of items that are not 0."""
    return len(word) - word.count(0)


def support_of(word):
    """The positions of the items that are not 0, in ascending order."""
    return [at for at, item in enumerate(word) if item != 0]


def _require_same_length(first, second):
    """Raises InvalidWord if the lists differ in length."""
    if len(first) != len(second):
        raise InvalidWord("the two words have different lengths")


def require_word(field, length, word):
    """Raises InvalidWord if the list is not a word of the length over the field."""
    if not is_word(field, length, word):
        raise InvalidWord(f"this is not a word of {length} items over the field")


def require_received(field, length, received):
    """Raises InvalidWord if the list is not a received word of the length over the field."""
    if not is_received(field, length, received):
        raise InvalidWord(f"this is not a received word of {length} items over the field")


def distance_between(first, second):
    """The number of positions at which the two words differ."""
    _require_same_length(first, second)
    return len([1 for one, other in zip(first, second) if one != other])


def erased_positions(received):
    """The erased positions in ascending order."""
    return [at for at, item in enumerate(received) if item is None]


def errors_beside(word, received):
    """The number of positions that are not erased and at which the two differ."""
    _require_same_length(word, received)
    return len([1 for item, told in zip(word, received) if told is not None and told != item])


def is_word(field, length, word):
    """Tells whether the list is a word of this length over the field."""
    order = field.order
    return len(word) == length and all(item is not None and 0 <= item < order for item in word)


def is_received(field, length, received):
    """Tells whether the list is a received word of this length over the field."""
    order = field.order
    return len(received) == length and all(item is None or 0 <= item < order for item in received)


def zero_word(length):
    """The word of this length that has only zeros."""
    return [0] * length


def add_words(field, first, second):
    """The sum of two words."""
    require_word(field, len(first), first)
    require_word(field, len(first), second)
    return field.plus_multiple(first, 1, second)


def subtract_words(field, first, second):
    """The difference of two words."""
    require_word(field, len(first), first)
    require_word(field, len(first), second)
    return field.plus_multiple(first, field.negative(1), second)


def scale_word(field, factor, word):
    """The multiple of the word by the factor."""
    require_word(field, 1, [factor])
    require_word(field, len(word), word)
    return field.multiple(factor, word)


def all_words(field, length):
    """Yields all words of this length over the field in ascending order."""
    word = zero_word(length)
    greatest = field.order - 1
    while True:
        yield list(word)
        at = length - 1
        while at >= 0 and word[at] == greatest:
            word[at] = 0
            at -= 1
        if at < 0:
            return
        word[at] += 1
