"""Written forms of fields, codes and words."""

from nearestword.errors import InvalidField, InvalidNotation
from nearestword.fields import Field
from nearestword.limits import GREATEST_LENGTH
from nearestword.linear import LinearCode
from nearestword.words import is_received, is_word

MOST_DIGITS = 3


def _line_of(head, numbers):
    """The line with a word and the numbers behind it."""
    return " ".join([head] + [str(number) for number in numbers])


def format_field(field):
    """The written form of the field."""
    return _line_of("field", [field.prime, *field.modulus])


def format_code(code):
    """The written form of the code."""
    lines = [format_field(code.field), _line_of("length", [code.length])]
    return "\n".join(lines + [_line_of("row", row) for row in code.rows])


def format_word(word):
    """The written form of the word or received word."""
    return " ".join(["?" if item is None else str(item) for item in word])


def _is_number(text):
    """Tells whether the text is a number in its written form."""
    if not text.isdigit() or len(text) > MOST_DIGITS:
        return False
    return text == "0" or not text.startswith("0")


def _numbers_behind(head, lines, at):
    """The numbers behind the word in the line with the index `at`; raises InvalidNotation for another line."""
    if at >= len(lines):
        raise InvalidNotation(at + 1)
    first, *items = lines[at].split(" ")
    if first != head or not all([_is_number(item) for item in items]):
        raise InvalidNotation(at + 1)
    return [int(item) for item in items]


def _field_in(lines):
    """The field of the first line."""
    numbers = _numbers_behind("field", lines, 0)
    if not numbers:
        raise InvalidNotation(1)
    try:
        return Field(numbers[0], tuple(numbers[1:]))
    except InvalidField:
        raise InvalidNotation(1)


def _length_in(lines):
    """The length of a code, which stands in the second line."""
    numbers = _numbers_behind("length", lines, 1)
    if len(numbers) != 1 or numbers[0] < 1 or numbers[0] > GREATEST_LENGTH:
        raise InvalidNotation(2)
    return numbers[0]


def parse_field(text):
    """The field with the written form."""
    lines = text.split("\n")
    field = _field_in(lines)
    if len(lines) > 1:
        raise InvalidNotation(2)
    return field


def parse_code(text):
    """The code with the rows of the text."""
    lines = text.split("\n")
    field = _field_in(lines)
    length = _length_in(lines)
    rows = []
    for at in range(2, len(lines)):
        row = _numbers_behind("row", lines, at)
        if not is_word(field, length, row):
            raise InvalidNotation(at + 1)
        rows.append(row)
    return LinearCode(field, length, rows)


def parse_word(field, text):
    """The word or received word with the written form."""
    items = text.split(" ")
    if len(items) > GREATEST_LENGTH or not all([item == "?" or _is_number(item) for item in items]):
        raise InvalidNotation(1)
    word = [None if item == "?" else int(item) for item in items]
    if not is_received(field, len(word), word):
        raise InvalidNotation(1)
    return word
