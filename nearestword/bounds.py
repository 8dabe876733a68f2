"""Bounds that the length, the dimension and the distance of a code keep, and codes that meet them."""

from nearestword.distances import errors_mended, minimum_distance
from nearestword.errors import InvalidCode
from nearestword.fields import int_power
from nearestword.limits import GREATEST_LENGTH, choose, require_between, require_few, require_length, require_order
from nearestword.linear import LinearCode, code_from_checks
from nearestword.matrices import transpose
from nearestword.words import all_words, zero_word


def _require_code(order, length, least, dimension):
    """Raises InvalidCode if a code has no such order or length, or no such dimension from the least one on."""
    require_order(order)
    require_length(length)
    require_between("dimension", dimension, least, length)


def _require_distance(order, length, dimension, distance):
    """Raises InvalidCode if one of the four numbers is beyond its limits."""
    _require_code(order, length, 1, dimension)
    require_between("distance", distance, 1, length)


def ball(order, length, radius):
    """The number of words of the length whose weight is at most the radius."""
    require_order(order)
    require_between("length", length, 0, GREATEST_LENGTH)
    total = 0
    power = 1
    for weight in range(min(radius, length) + 1):
        total += choose(length, weight) * power
        power = power * (order - 1)
    return total


def packing_holds(order, length, dimension, distance):
    """Tells whether the packing bound holds."""
    _require_distance(order, length, dimension, distance)
    return ball(order, length, (distance - 1) // 2) <= int_power(order, length - dimension)


def singleton_holds(order, length, dimension, distance):
    """Tells whether the Singleton bound holds."""
    _require_distance(order, length, dimension, distance)
    return distance <= length - dimension + 1


def griesmer_length(order, dimension, distance):
    """The sum of distance / order ** i, each one rounded up, for each i below the dimension."""
    require_order(order)
    require_between("dimension", dimension, 1, GREATEST_LENGTH)
    require_between("distance", distance, 1, GREATEST_LENGTH)
    total = 0
    power = 1
    for _ in range(dimension):
        total += (distance + power - 1) // power
        power = power * order
    return total


def griesmer_holds(order, length, dimension, distance):
    """Tells whether the Griesmer bound holds."""
    _require_distance(order, length, dimension, distance)
    return griesmer_length(order, dimension, distance) <= length


def plotkin_holds(order, length, dimension, distance):
    """Tells whether the Plotkin bound holds."""
    _require_distance(order, length, dimension, distance)
    power = int_power(order, dimension - 1)
    return distance * (power * order - 1) <= length * (order - 1) * power


def _keeps_bounds(order, length, dimension, distance):
    """Tells whether all four bounds hold."""
    if not singleton_holds(order, length, dimension, distance):
        return False
    if not griesmer_holds(order, length, dimension, distance):
        return False
    if not plotkin_holds(order, length, dimension, distance):
        return False
    return packing_holds(order, length, dimension, distance)


def greatest_distance(order, length, dimension):
    """The greatest distance for which all four bounds hold."""
    _require_code(order, length, 1, dimension)
    distance = length
    while not _keeps_bounds(order, length, dimension, distance):
        distance -= 1
    return distance


def covering_holds(order, length, dimension, radius):
    """Tells whether the covering condition holds."""
    _require_code(order, length, 0, dimension)
    require_between("radius", radius, 0, length)
    return ball(order, length, radius) >= int_power(order, length - dimension)


def is_perfect(code):
    """Tells whether every word lies within the errors mended of exactly one word of the code."""
    order = code.field.order
    return ball(order, code.length, errors_mended(code)) == int_power(order, code.length - code.dimension)


def is_separable(code):
    """Tells whether the minimum distance is as great as the Singleton bound lets it be."""
    return code.dimension == 0 or minimum_distance(code) == code.length - code.dimension + 1


def varshamov_holds(order, length, dimension, distance):
    """Tells whether the Varshamov condition holds."""
    _require_distance(order, length, dimension, distance)
    return ball(order, length - 1, distance - 2) < int_power(order, length - dimension)


def _first_sums(redundancy, distance):
    """The sums before any column is chosen: the zeros, unless the distance is 1."""
    return {} if distance == 1 else {tuple(zero_word(redundancy)): 0}


def _longer_sums(field, sums, column, most):
    """The sums with multiples of one column more, each one with the least number of columns that it needs."""
    longer = {total: many for total, many in sums.items()}
    for total, many in sums.items():
        if many < most:
            for factor in range(1, field.order):
                other = tuple(field.plus_multiple(total, factor, column))
                longer[other] = min(many + 1, longer.get(other, most))
    return longer


def _varshamov_columns(field, length, redundancy, distance):
    """The columns: each one is the first list that is no sum of multiples of few columns before it."""
    columns = []
    sums = _first_sums(redundancy, distance)
    for column in all_words(field, redundancy):
        # Sums stay sums as columns are added, so no list that was passed over is looked at again.
        while len(columns) < length and tuple(column) not in sums:
            columns.append(column)
            sums = _longer_sums(field, sums, column, distance - 2)
    return columns


def varshamov_code(field, length, dimension, distance):
    """The Varshamov code."""
    if not varshamov_holds(field.order, length, dimension, distance):
        raise InvalidCode("the Varshamov condition does not hold")
    redundancy = length - dimension
    require_few(int_power(field.order, redundancy))
    columns = _varshamov_columns(field, length, redundancy, distance)
    code = code_from_checks(field, length, transpose(columns, redundancy))
    return LinearCode(field, length, code.rows[:dimension])
