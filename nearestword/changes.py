"""Codes that are made from other codes."""

from nearestword.errors import InvalidCode
from nearestword.limits import GREATEST_LENGTH
from nearestword.linear import LinearCode, code_from_checks
from nearestword.matrices import reduce_rows
from nearestword.words import zero_word


def dual(code):
    """The code of the words whose products with all words of the code are 0."""
    return LinearCode(code.field, code.length, code.checks)


def require_positions(code, positions):
    """Raises InvalidCode if an item is not a position of the code or occurs twice."""
    if any(at < 0 or at >= code.length for at in positions):
        raise InvalidCode("the code has no such position")
    if len(set(positions)) != len(positions):
        raise InvalidCode("a position occurs twice")


def _remaining(code, positions):
    """The other positions of the code, which are at least one."""
    require_positions(code, positions)
    remaining = [at for at in range(code.length) if at not in positions]
    if not remaining:
        raise InvalidCode("no position remains")
    return remaining


def shortened(code, positions):
    """The words of the code that are 0 at the positions, without these positions."""
    remaining = _remaining(code, positions)
    order = positions + remaining
    # With these positions in front, a reduced row is 0 at all of them or has its pivot there.
    reduced, pivots = reduce_rows(code.field, [[row[at] for at in order] for row in code.rows])
    removed = len(positions)
    rows = [row[removed:] for pivot, row in zip(pivots, reduced) if pivot >= removed]
    return LinearCode(code.field, len(remaining), rows)


def punctured(code, positions):
    """The words of the code, without these positions."""
    remaining = _remaining(code, positions)
    rows = [[row[at] for at in remaining] for row in code.rows]
    return LinearCode(code.field, len(remaining), rows)


def extended(code):
    """The words of the code, each one followed by the negative of the sum of its items."""
    if code.length == GREATEST_LENGTH:
        raise InvalidCode("the extended code would be too long")
    negatives = [code.field.negative(1)] * code.length
    rows = [row + [code.field.dot(row, negatives)] for row in code.rows]
    return LinearCode(code.field, code.length + 1, rows)


def _require_same_field(first, second):
    """Raises InvalidCode if the fields of the codes are not the same."""
    if not first.field.same_as(second.field):
        raise InvalidCode("the two codes have different fields")


def _require_same_words(first, second):
    """Raises InvalidCode if the fields of the codes are not the same or the lengths differ."""
    _require_same_field(first, second)
    if first.length != second.length:
        raise InvalidCode("the two codes have different lengths")


def joined(first, second):
    """Each word of the first code followed by each word of the second code."""
    _require_same_field(first, second)
    length = first.length + second.length
    if length > GREATEST_LENGTH:
        raise InvalidCode("the joined code would be too long")
    rows = [row + zero_word(second.length) for row in first.rows]
    rows = rows + [zero_word(first.length) + row for row in second.rows]
    return LinearCode(first.field, length, rows)


def doubled(first, second):
    """Each u followed by u + v, for the words u of the first and v of the second code."""
    _require_same_words(first, second)
    length = first.length + second.length
    if length > GREATEST_LENGTH:
        raise InvalidCode("the doubled code would be too long")
    rows = [row + row for row in first.rows]
    rows = rows + [zero_word(first.length) + row for row in second.rows]
    return LinearCode(first.field, length, rows)


def span_of(first, second):
    """All sums of a word of the first code and a word of the second code."""
    _require_same_words(first, second)
    return LinearCode(first.field, first.length, first.rows + second.rows)


def meeting(first, second):
    """The words that belong to both codes."""
    _require_same_words(first, second)
    return code_from_checks(first.field, first.length, first.checks + second.checks)


def permuted(code, order):
    """The words of the code with their items in the given order of the positions."""
    if sorted(order) != list(range(code.length)):
        raise InvalidCode("the order is not a list of all positions, each once")
    return LinearCode(code.field, code.length, [[row[at] for at in order] for row in code.rows])
