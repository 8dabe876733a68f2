"""The numbers of the words of each weight, and what follows from them."""

from math import gcd

from nearestword.changes import dual, require_positions
from nearestword.errors import InvalidCode
from nearestword.fields import LARGEST_ORDER, int_power
from nearestword.limits import GREATEST_LENGTH, choose, require_between, require_length, require_order
from nearestword.matrices import rank_of
from nearestword.words import weight_of


def enumerator(code):
    """The number of words of each weight from 0 to the length."""
    counts = [0] * (code.length + 1)
    for word in code.words():
        counts[weight_of(word)] += 1
    return counts


def krawtchouk(order, length, k, x):
    """The Krawtchouk number."""
    total = 0
    for j in range(k + 1):
        ways = choose(x, j) * choose(length - x, k - j) * int_power(order - 1, k - j)
        total += ways if j % 2 == 0 else -ways
    return total


def _is_power(number, base, most):
    """Tells whether the number is a power of the base with an exponent from 0 to `most`."""
    power = 1
    for _ in range(most):
        if power < number:
            power = power * base
    return power == number


def _may_be_counts(order, counts):
    """Tells whether the counts are usable, but for the items of their dual counts."""
    if order < 2 or order > LARGEST_ORDER:
        return False
    if len(counts) < 2 or len(counts) > GREATEST_LENGTH + 1:
        return False
    if counts[0] != 1 or min(counts) < 0:
        return False
    return _is_power(sum(counts), order, len(counts) - 1)


def _times_line(numbers, slope):
    """The coefficients of a polynomial times 1 + slope * z, the constant first."""
    return [here + slope * below for here, below in zip(numbers + [0], [0] + numbers)]


def _krawtchouk_sums(order, counts):
    """For each k the sum of all counts[x] times the Krawtchouk number for k and x."""
    # The Krawtchouk numbers for x are the coefficients of (1 - z) ** x * (1 + (order - 1) * z) ** (n - x).
    sums = [counts[-1]]
    others = [1]
    for count in reversed(counts[:-1]):
        others = _times_line(others, order - 1)
        sums = [item + count * other for item, other in zip(_times_line(sums, -1), others)]
    return sums


def dual_enumerator(order, counts):
    """The dual counts of usable counts."""
    if not _may_be_counts(order, counts):
        raise InvalidCode("these are not the counts of a code")
    total = sum(counts)
    sums = _krawtchouk_sums(order, counts)
    if any(item < 0 or item % total != 0 for item in sums):
        raise InvalidCode("the dual counts are not integers from 0")
    return [item // total for item in sums]


def enumerator_by_dual(code):
    """The enumerator of the code, computed from the words of its dual."""
    return dual_enumerator(code.field.order, enumerator(dual(code)))


def outer_distance(code):
    """The number of different weights, other than 0, of the words of the dual."""
    return len([count for count in enumerator(dual(code))[1:] if count > 0])


def vanishing_dimension(code, positions):
    """The dimension of the code of the words that are 0 at all the positions."""
    require_positions(code, positions)
    rows = [[row[at] for at in positions] for row in code.rows]
    return code.dimension - rank_of(code.field, rows, len(positions))


def _require_counts(counts):
    """Raises InvalidCode if the counts cannot be numbers of words."""
    if len(counts) < 1 or len(counts) > GREATEST_LENGTH + 1:
        raise InvalidCode(f"there are 1 to {GREATEST_LENGTH + 1} counts")
    if min(counts) < 0 or max(counts) == 0:
        raise InvalidCode("a count is negative, or all of them are 0")


def binomial_moment(counts, k):
    """The binomial moment of the counts for k."""
    _require_counts(counts)
    length = len(counts) - 1
    if k < 0 or k > length:
        raise InvalidCode("there is no binomial moment for this number of positions")
    return sum([choose(length - weight, k) * count for weight, count in enumerate(counts)])


def average_weight(counts):
    """The average weight as (top, bottom) in lowest terms."""
    _require_counts(counts)
    top = sum([weight * count for weight, count in enumerate(counts)])
    bottom = sum(counts)
    common = gcd(top, bottom)
    return (top // common, bottom // common)


def _separable_count(order, length, distance, weight):
    """The number of words of this weight, which is at least the distance, in a separable code."""
    total = 0
    power = order
    # From the last summand down, so that the powers ascend.
    for j in range(weight - distance, -1, -1):
        part = choose(weight, j) * (power - 1)
        total += part if j % 2 == 0 else -part
        power = power * order
    return choose(length, weight) * total


def separable_enumerator(order, length, dimension):
    """The counts of a separable code of these parameters."""
    require_order(order)
    require_length(length)
    require_between("dimension", dimension, 0, length)
    distance = length - dimension + 1
    counts = [1] + [0] * length
    for weight in range(distance, length + 1):
        counts[weight] = _separable_count(order, length, distance, weight)
    return counts
