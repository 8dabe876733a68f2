"""Families of codes."""

from nearestword.errors import InvalidCode
from nearestword.fields import int_power, standard_field
from nearestword.limits import GREATEST_LENGTH
from nearestword.linear import LinearCode, code_from_checks
from nearestword.matrices import transpose
from nearestword.words import all_words

LARGEST_SIZE = 7


def repetition_code(field, length):
    """The code of the words all of whose items are equal."""
    return LinearCode(field, length, [[1] * length])


def parity_code(field, length):
    """The code of the words whose sum of all items is 0."""
    return code_from_checks(field, length, [[1] * length])


def zero_code(field, length):
    """The code that contains only the zero word."""
    return LinearCode(field, length, [])


def whole_code(field, length):
    """The code of all words of the length."""
    return code_from_checks(field, length, [])


def _column_count(field, redundancy):
    """The number of columns of the redundancy, the length of the codes that have them."""
    if redundancy < 1:
        raise InvalidCode("a redundancy is at least 1")
    count = 0
    for _ in range(redundancy):
        count = count * field.order + 1
        if count > GREATEST_LENGTH:
            raise InvalidCode(f"a code of this redundancy is longer than {GREATEST_LENGTH}")
    return count


def _column_rows(field, redundancy):
    """The rows whose columns are the columns of the redundancy."""
    columns = []
    for below in range(redundancy):
        columns = [[0] + column for column in columns] + [[1] + word for word in all_words(field, below)]
    return transpose(columns, redundancy)


def hamming_code(field, redundancy):
    """The code whose checks have the columns of the redundancy."""
    length = _column_count(field, redundancy)
    return code_from_checks(field, length, _column_rows(field, redundancy))


def simplex_code(field, redundancy):
    """The code whose rows have the columns of the redundancy."""
    length = _column_count(field, redundancy)
    return LinearCode(field, length, _column_rows(field, redundancy))


def _ones_in(number):
    """The number of binary digits 1."""
    count = 0
    while number > 0:
        count += number & 1
        number = number >> 1
    return count


def reed_muller_code(order, size):
    """The Reed-Muller code of an order and a size."""
    if size < 0 or size > LARGEST_SIZE:
        raise InvalidCode(f"the size of a Reed-Muller code is from 0 to {LARGEST_SIZE}")
    if order < -1 or order > size:
        raise InvalidCode("the order of a Reed-Muller code is from -1 to its size")
    length = int_power(2, size)
    # A set of digits is written as the number that has 1 exactly at these digits.
    chosen = [digits for digits in range(length) if _ones_in(digits) <= order]
    rows = [[1 if (at & digits) == digits else 0 for at in range(length)] for digits in chosen]
    return LinearCode(standard_field(2), length, rows)
