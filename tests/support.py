"""Slow and plain computations, with which the tests compare the program."""

import itertools
import random

from nearestword.fields import Field, standard_field

SMALL_FIELDS = (
    Field(2),
    Field(3),
    Field(2, (1, 1, 1)),
    Field(5),
    Field(5, (3, 1)),
    Field(2, (1, 0, 1, 1)),
    Field(3, (2, 1, 1)),
)
LARGE_FIELDS = (Field(31), standard_field(256), standard_field(243), Field(2, (1, 0, 1, 1, 1, 0, 0, 0, 1)))


def digits_of(number, base, many):
    return [number // base ** place % base for place in range(many)]


def number_of(digits, base):
    return sum(digit * base ** place for place, digit in enumerate(digits))


def slow_plus(field, a, b):
    p, d = field.prime, field.degree
    return number_of([(x + y) % p for x, y in zip(digits_of(a, p, d), digits_of(b, p, d))], p)


def slow_negative(field, a):
    p, d = field.prime, field.degree
    return number_of([-x % p for x in digits_of(a, p, d)], p)


def slow_times(field, a, b):
    p, d = field.prime, field.degree
    product = [0] * (2 * d - 1)
    for i, x in enumerate(digits_of(a, p, d)):
        for j, y in enumerate(digits_of(b, p, d)):
            product[i + j] = (product[i + j] + x * y) % p
    for place in range(2 * d - 2, d - 1, -1):
        lead = product[place]
        for i, item in enumerate(field.modulus):
            product[place - d + i] = (product[place - d + i] - lead * item) % p
    return number_of(product[:d], p)


def slow_dot(field, row, other):
    total = 0
    for x, y in zip(row, other):
        total = slow_plus(field, total, slow_times(field, x, y))
    return total


def every_word(field, length):
    return [list(word) for word in itertools.product(range(field.order), repeat=length)]


def combinations_of(field, rows, length):
    """All sums of multiples of the rows, in ascending order, each one once."""
    found = {(0,) * length}
    for row in rows:
        multiples = {tuple(slow_times(field, factor, item) for item in row) for factor in range(field.order)}
        found = {
            tuple(slow_plus(field, x, y) for x, y in zip(word, added))
            for word in found
            for added in multiples
        }
    return [list(word) for word in sorted(found)]


def words_with_checks(field, checks, length):
    return [
        word for word in every_word(field, length)
        if all(slow_dot(field, check, word) == 0 for check in checks)
    ]


def weight(word):
    return sum(1 for item in word if item != 0)


def only_word_within(words, received, limit):
    """The only word with at most so many errors beside the received one, None if there is none."""
    near = [
        word for word in words
        if sum(1 for item, told in zip(word, received) if told is not None and told != item) <= limit
    ]
    assert len(near) <= 1
    return near[0] if near else None


def random_rows(seed, field, many, width):
    source = random.Random(seed)
    return [[source.randrange(field.order) for _ in range(width)] for _ in range(many)]


ENCODERS = (
    [[1]], [[1], [0]], [[0], [1], [1]], [[1], [1], [1], [1]], [[0, 1]], [[1, 0], [1, 1]], [[0, 0], [0, 1]],
    [[1, 1], [0, 0]],
    [[1, 1]], [[1, 0, 1], [1, 1, 1]], [[1, 0, 1], [1, 1, 0], [0, 0, 1]], [[0, 1, 1], [0, 0, 1]], [[0, 0, 1]],
    [[1, 0, 0]],
    [[1, 1, 0], [0, 1, 1]], [[1, 0, 1, 1], [1, 1, 1, 1]], [[1, 0, 0, 1], [0, 0, 0, 0]], [[0, 1, 0, 1], [0, 1, 1, 0]],
    [[1, 0, 1, 1], [1, 1, 0, 1], [1, 1, 1, 1], [0, 1, 1, 0]],
)
LONG_ENCODERS = (
    [[1, 0, 0, 1, 1], [1, 1, 1, 0, 1]], [[1, 0, 1, 1, 1, 1], [1, 1, 0, 1, 0, 1]], [[0, 1, 0, 0, 1, 0]],
    [[1, 0, 1, 1, 0, 1], [1, 1, 1, 0, 0, 1], [1, 1, 1, 1, 0, 1], [1, 0, 0, 1, 1, 1]],
    [[1, 1, 0, 0, 1, 1], [1, 0, 0, 0, 0, 1]],
)


def all_bits(many):
    return [list(bits) for bits in itertools.product((0, 1), repeat=many)]


def fed(taps, bits):
    """The output bits and the last state of an encoder that is fed with the bits from the state 0 on."""
    told = [
        sum(item * bits[at - back] for back, item in enumerate(tap) if back <= at) % 2
        for at in range(len(bits)) for tap in taps
    ]
    memory = len(taps[0]) - 1
    return told, sum(2 ** back * bits[-1 - back] for back in range(min(memory, len(bits))))


def slow_word(taps, message):
    """The word of a message."""
    return fed(taps, message + [0] * (len(taps[0]) - 1))[0]


def differing(told, received):
    """The number of positions that are not erased and at which the two differ."""
    assert len(told) == len(received)
    return sum(1 for item, other in zip(told, received) if other is not None and other != item)


def slow_cost(word, received):
    """Two for each error and one for each erased position."""
    return sum(1 if told is None else 2 if told != item else 0 for item, told in zip(word, received))


def some_received(source, length, erased=20):
    """A list of bits, of which about so many in a hundred are erased."""
    return [None if source.randrange(100) < erased else source.randrange(2) for _ in range(length)]


def deep_copy(value):
    """A copy of lists and tuples; everything else stays the object that it is."""
    if isinstance(value, list):
        return [deep_copy(item) for item in value]
    if isinstance(value, tuple):
        return tuple(deep_copy(item) for item in value)
    return value


def spoil(value):
    """Changes every list in the value, the inner ones first."""
    if isinstance(value, (list, tuple)):
        for item in value:
            spoil(item)
    if isinstance(value, list):
        value.append("spoiled")


def all_lists(value):
    """The identities of all lists in the value."""
    found = [id(value)] if isinstance(value, list) else []
    if isinstance(value, (list, tuple)):
        for item in value:
            found += all_lists(item)
    return found
