"""Matrices over a field: lists of rows of one width."""

from nearestword.errors import InvalidMatrix, SingularMatrix


def _require_width(rows, width):
    """Raises InvalidMatrix if a row has another width."""
    if any(len(row) != width for row in rows):
        raise InvalidMatrix(f"a row has not the width {width}")


def _first_place(row):
    """The place of the first item that is not 0, None if there is none."""
    for at, item in enumerate(row):
        if item != 0:
            return at
    return None


def _cleared(field, kept, at, rest):
    """The rows without the column `at`, after `rest` has made it 0 in each of them."""
    cleared = []
    for row in kept:
        changed = field.plus_multiple(row, field.negative(row[at]), rest)
        cleared.append(changed[:at] + changed[at + 1:])
    return cleared + [rest[:at] + rest[at + 1:]]


def reduce_rows(field, rows):
    """The rows of the reduced form, and the list of its pivots."""
    width = len(rows[0]) if rows else 0
    _require_width(rows, width)
    free = list(range(width))
    pivots = []
    # Each row that is kept belongs to the pivot at its place, and has only its items at the free columns.
    kept = []
    for row in rows:
        if not free:
            break
        rest = [row[column] for column in free]
        for pivot, other in zip(pivots, kept):
            if row[pivot] != 0:
                rest = field.plus_multiple(rest, field.negative(row[pivot]), other)
        at = _first_place(rest)
        if at is not None:
            rest = field.multiple(field.inverse(rest[at]), rest)
            kept = _cleared(field, kept, at, rest)
            pivots = pivots + [free[at]]
            free = free[:at] + free[at + 1:]
    return (_completed(width, free, pivots, kept), sorted(pivots))


def _completed(width, free, pivots, kept):
    """The rows with their items at all columns, in ascending order of their pivots."""
    row_of = {}
    for pivot, items in zip(pivots, kept):
        row = [0] * width
        row[pivot] = 1
        for at, item in zip(free, items):
            row[at] = item
        row_of[pivot] = row
    return [row_of[pivot] for pivot in sorted(pivots)]


def rank_of(field, rows, width):
    """The rank."""
    _require_width(rows, width)
    _, pivots = reduce_rows(field, rows)
    return len(pivots)


def kernel_of_reduced(field, reduced, pivots, width):
    """The kernel of a matrix that has the reduced form."""
    vectors = []
    for column in range(width):
        if column not in pivots:
            vector = [0] * width
            vector[column] = 1
            for pivot, row in zip(pivots, reduced):
                vector[pivot] = field.negative(row[column])
            vectors.append(vector)
    return vectors


def kernel(field, rows, width):
    """The kernel: one vector for each column that is no pivot."""
    _require_width(rows, width)
    reduced, pivots = reduce_rows(field, rows)
    return kernel_of_reduced(field, reduced, pivots, width)


def solve(field, rows, width, target):
    """The solution that is 0 in each column that is no pivot, None if there is no solution."""
    _require_width(rows, width)
    if len(target) != len(rows):
        raise InvalidMatrix("the target has not as many items as there are rows")
    reduced, pivots = reduce_rows(field, [row + [item] for row, item in zip(rows, target)])
    # A pivot in the column of the target stands for an equation that says 0 = 1.
    if width in pivots:
        return None
    vector = [0] * width
    for pivot, row in zip(pivots, reduced):
        vector[pivot] = row[width]
    return vector


def multiply_vector(field, rows, vector):
    """The list of the products of the rows and the vector."""
    _require_width(rows, len(vector))
    return [field.dot(row, vector) for row in rows]


def combine_rows(field, factors, rows, width):
    """The sum of the multiples of the rows, each one multiplied by the factor at its place."""
    total = [0] * width
    for factor, row in zip(factors, rows):
        if factor != 0:
            total = field.plus_multiple(total, factor, row)
    return total


def multiply_matrices(field, first, second, width):
    """The product of two matrices, the second of which has the width."""
    _require_width(second, width)
    _require_width(first, len(second))
    return [combine_rows(field, row, second, width) for row in first]


def transpose(rows, width):
    """The matrix whose rows are the columns of the given one."""
    _require_width(rows, width)
    return [[row[at] for row in rows] for at in range(width)]


def determinant(field, rows):
    """The determinant of a square matrix."""
    _require_width(rows, len(rows))
    rest = rows
    result = 1
    while rest:
        at = _first_place([row[0] for row in rest])
        if at is None:
            return 0
        top = rest[at]
        # Moving the row to the top exchanges it with each of the rows above it.
        sign = 1 if at % 2 == 0 else field.negative(1)
        result = field.times(result, field.times(sign, top[0]))
        rest = _without_top(field, top, rest[:at] + rest[at + 1:])
    return result


def _without_top(field, top, rows):
    """The rows without their first column, after the top row has made it 0 in each of them."""
    inverse = field.inverse(top[0])
    smaller = []
    for row in rows:
        factor = field.negative(field.times(row[0], inverse))
        smaller.append(field.plus_multiple(row[1:], factor, top[1:]))
    return smaller


def invert_matrix(field, rows):
    """The inverse of a square matrix."""
    size = len(rows)
    _require_width(rows, size)
    beside = []
    for at, row in enumerate(rows):
        unit = [0] * size
        unit[at] = 1
        beside.append(row + unit)
    reduced, pivots = reduce_rows(field, beside)
    if pivots != list(range(size)):
        raise SingularMatrix("the matrix has no inverse")
    return [row[size:] for row in reduced]
