"""Points 17 to 21: matrices."""

import itertools
import unittest

from nearestword.errors import InvalidMatrix, SingularMatrix
from nearestword.fields import Field, standard_field
from nearestword.matrices import (
    determinant, invert_matrix, kernel, multiply_matrices, multiply_vector, rank_of, reduce_rows, solve, transpose,
)
from tests.support import (
    SMALL_FIELDS, combinations_of, every_word, random_rows, slow_dot, slow_negative, slow_plus, slow_times,
)


def some_matrices(field):
    """Matrices of several shapes, also with rows that depend on each other, as (rows, width)."""
    found = [([], 0), ([], 3), ([[], []], 0), ([[0, 0], [0, 0]], 2), ([[0, 0, 1]], 3), ([[0], [1], [0]], 1)]
    for seed, (many, width) in enumerate(((1, 3), (2, 2), (2, 3), (3, 3), (3, 2), (4, 3))):
        rows = random_rows(seed, field, many, width)
        found.append((rows, width))
        found.append((rows + rows[:1], width))
        found.append(([[0] + row for row in rows], width + 1))
        doubled = [slow_plus(field, x, y) for x, y in zip(rows[0], rows[-1])]
        found.append((rows + [doubled], width))
    return found


def identity(size):
    return [[1 if i == j else 0 for j in range(size)] for i in range(size)]


def slow_determinant(field, rows):
    if not rows:
        return 1
    total = 0
    for place, item in enumerate(rows[0]):
        minor = slow_determinant(field, [row[:place] + row[place + 1:] for row in rows[1:]])
        part = slow_times(field, item, minor)
        total = slow_plus(field, total, part if place % 2 == 0 else slow_negative(field, part))
    return total


class ReductionTest(unittest.TestCase):
    def test_point_18_reduced_form(self):
        for field in SMALL_FIELDS:
            for rows, width in some_matrices(field):
                reduced, pivots = reduce_rows(field, rows)
                self.assertEqual(len(reduced), len(pivots))
                self.assertEqual(pivots, sorted(set(pivots)))
                for row, pivot in zip(reduced, pivots):
                    self.assertEqual(row[:pivot + 1], [0] * pivot + [1])
                    self.assertEqual([other[pivot] for other in reduced if other is not row], [0] * (len(reduced) - 1))
                if field.order ** width < 300:
                    spanned = combinations_of(field, rows, width)
                    self.assertEqual(combinations_of(field, reduced, width), spanned)
                    self.assertEqual(field.order ** len(reduced), len(spanned))
                self.assertEqual(rank_of(field, rows, width), len(reduced))

    def test_point_18_examples(self):
        field = Field(5)
        self.assertEqual(reduce_rows(field, []), ([], []))
        self.assertEqual(reduce_rows(field, [[], []]), ([], []))
        self.assertEqual(reduce_rows(field, [[0, 0]]), ([], []))
        self.assertEqual(reduce_rows(field, [[0, 3], [2, 4]]), ([[1, 0], [0, 1]], [0, 1]))
        self.assertEqual(reduce_rows(field, [[0, 2, 4], [0, 1, 2], [0, 0, 0]]), ([[0, 1, 2]], [1]))
        self.assertIsInstance(reduce_rows(field, []), tuple)

    def test_point_18_many_rows(self):
        field = standard_field(256)
        rows = random_rows(18, field, 30, 40)
        many = rows + [[field.plus(x, y) for x, y in zip(a, b)] for a, b in itertools.combinations(rows, 2)]
        reduced, pivots = reduce_rows(field, many)
        self.assertEqual(pivots, list(range(30)))
        self.assertEqual((reduced, pivots), reduce_rows(field, many[::-1]))

    def test_point_17_and_18_widths(self):
        field = Field(3)
        for rows in ([[1], []], [[], [1]], [[1, 2], [1]], [[0, 0], [0, 0], [0, 0, 0]]):
            with self.assertRaises(InvalidMatrix):
                reduce_rows(field, rows)
            for width in range(4):
                with self.assertRaises(InvalidMatrix):
                    rank_of(field, rows, width)
        with self.assertRaises(InvalidMatrix):
            rank_of(field, [[1, 2]], 3)
        with self.assertRaises(InvalidMatrix):
            rank_of(field, [[]], 1)
        self.assertEqual(rank_of(field, [], 7), 0)
        # The last row comes after the others already have the full rank.
        with self.assertRaises(InvalidMatrix):
            reduce_rows(field, [[1, 0], [0, 1], [1]])


class KernelTest(unittest.TestCase):
    def test_point_19_kernel(self):
        for field in SMALL_FIELDS:
            for rows, width in some_matrices(field):
                _, pivots = reduce_rows(field, rows)
                free = [place for place in range(width) if place not in pivots]
                vectors = kernel(field, rows, width)
                self.assertEqual(len(vectors), len(free))
                for place, vector in zip(free, vectors):
                    self.assertEqual(len(vector), width)
                    self.assertEqual([vector[at] for at in free], [1 if at == place else 0 for at in free])
                    self.assertTrue(all(slow_dot(field, row, vector) == 0 for row in rows))

    def test_point_19_edges(self):
        field = Field(3)
        self.assertEqual(kernel(field, [], 0), [])
        self.assertEqual(kernel(field, [], 2), [[1, 0], [0, 1]])
        self.assertEqual(kernel(field, [[]], 0), [])
        self.assertEqual(kernel(field, [[0, 0]], 2), [[1, 0], [0, 1]])
        self.assertEqual(kernel(field, [[0, 1], [2, 1]], 2), [])
        self.assertEqual(kernel(field, [[0, 1, 1]], 3), [[1, 0, 0], [0, 2, 1]])
        for rows, width in (([[1, 2]], 1), ([[1, 2]], 3), ([[1], [1, 2]], 1), ([[]], 1)):
            with self.assertRaises(InvalidMatrix):
                kernel(field, rows, width)


class SolutionTest(unittest.TestCase):
    def test_point_20_solutions(self):
        for field in SMALL_FIELDS[:4]:
            for rows, width in some_matrices(field):
                _, pivots = reduce_rows(field, rows)
                reached = {
                    tuple(slow_dot(field, row, vector) for row in rows) for vector in every_word(field, width)
                }
                for target in random_rows(20, field, 8, len(rows)) + [[0] * len(rows)]:
                    answer = solve(field, rows, width, target)
                    self.assertEqual(answer is not None, tuple(target) in reached)
                    if answer is not None:
                        self.assertEqual(len(answer), width)
                        self.assertEqual([slow_dot(field, row, answer) for row in rows], target)
                        self.assertTrue(all(answer[at] == 0 for at in range(width) if at not in pivots))

    def test_point_20_edges(self):
        field = Field(5)
        self.assertEqual(solve(field, [], 0, []), [])
        self.assertEqual(solve(field, [], 3, []), [0, 0, 0])
        self.assertEqual(solve(field, [[]], 0, [0]), [])
        self.assertIsNone(solve(field, [[]], 0, [2]))
        self.assertIsNone(solve(field, [[1, 2], [2, 4]], 2, [1, 1]))
        self.assertEqual(solve(field, [[1, 2], [2, 4]], 2, [1, 2]), [1, 0])
        self.assertEqual(solve(field, [[0, 2, 1]], 3, [4]), [0, 2, 0])

    def test_point_20_wrong_sizes(self):
        field = Field(5)
        for rows, width, target in (
            ([[1, 2]], 3, [1]), ([[1, 2], [1]], 2, [1, 1]), ([[1, 2]], 2, []), ([[1, 2]], 2, [1, 1]), ([], 2, [1]),
        ):
            with self.assertRaises(InvalidMatrix):
                solve(field, rows, width, target)


class ProductTest(unittest.TestCase):
    def test_point_21_vectors(self):
        for field in SMALL_FIELDS:
            for rows, width in some_matrices(field):
                for vector in random_rows(21, field, 3, width):
                    self.assertEqual(multiply_vector(field, rows, vector), [slow_dot(field, row, vector) for row in rows])
        self.assertEqual(multiply_vector(Field(2), [], [1, 0]), [])
        self.assertEqual(multiply_vector(Field(2), [[], []], []), [0, 0])
        for rows, vector in (([[1, 0]], [1]), ([[1, 0], [1]], [1, 0]), ([[]], [1])):
            with self.assertRaises(InvalidMatrix):
                multiply_vector(Field(2), rows, vector)

    def test_point_21_products(self):
        for field in SMALL_FIELDS:
            for many, inner, width in itertools.product(range(4), repeat=3):
                first = random_rows(many, field, many, inner)
                second = random_rows(width + 9, field, inner, width)
                expected = [
                    [slow_dot(field, row, [other[at] for other in second]) for at in range(width)] for row in first
                ]
                self.assertEqual(multiply_matrices(field, first, second, width), expected)

    def test_point_21_product_sizes(self):
        field = Field(3)
        self.assertEqual(multiply_matrices(field, [[], []], [], 2), [[0, 0], [0, 0]])
        self.assertEqual(multiply_matrices(field, [], [[1, 2]], 2), [])
        self.assertEqual(multiply_matrices(field, [[1]], [[]], 0), [[]])
        for first, second, width in (
            ([[1]], [[1, 2]], 1), ([[1]], [[1], [1, 2]], 1), ([[1, 1]], [[1]], 1), ([[1], [1, 1]], [[1]], 1),
            ([[1]], [], 2), ([[]], [[1]], 1), ([], [[1]], 2),
        ):
            with self.assertRaises(InvalidMatrix):
                multiply_matrices(field, first, second, width)

    def test_transpose(self):
        self.assertEqual(transpose([[1, 2, 3], [4, 5, 6]], 3), [[1, 4], [2, 5], [3, 6]])
        self.assertEqual(transpose([], 2), [[], []])
        self.assertEqual(transpose([], 0), [])
        self.assertEqual(transpose([[], []], 0), [])
        for rows, width in (([[1]], 2), ([[1], []], 1), ([[1, 2]], 0)):
            with self.assertRaises(InvalidMatrix):
                transpose(rows, width)

    def test_point_21_determinants_and_inverses(self):
        for field in SMALL_FIELDS:
            for size in range(5):
                for seed in range(12):
                    rows = random_rows(seed, field, size, size)
                    value = slow_determinant(field, rows)
                    self.assertEqual(determinant(field, rows), value)
                    if value == 0:
                        with self.assertRaises(SingularMatrix):
                            invert_matrix(field, rows)
                    else:
                        inverse = invert_matrix(field, rows)
                        self.assertEqual(multiply_matrices(field, rows, inverse, size), identity(size))
                        self.assertEqual(multiply_matrices(field, inverse, rows, size), identity(size))

    def test_point_21_determinant_rules(self):
        field = Field(7)
        self.assertEqual(determinant(field, []), 1)
        self.assertEqual(determinant(field, [[0, 1], [1, 0]]), 6)
        self.assertEqual(determinant(field, [[0, 0, 1], [1, 0, 0], [0, 1, 0]]), 1)
        self.assertEqual(determinant(field, [[3, 0], [0, 4]]), 5)
        self.assertEqual(determinant(field, [[3, 1], [6, 2]]), 0)
        self.assertEqual(determinant(field, [[0]]), 0)

    def test_point_21_inverse_edges(self):
        field = Field(7)
        self.assertEqual(invert_matrix(field, []), [])
        self.assertEqual(invert_matrix(field, [[3]]), [[5]])
        for rows in ([[0]], [[1, 2], [2, 4]], [[0, 0], [0, 0]], [[1, 0, 0], [0, 0, 1], [0, 0, 2]]):
            with self.assertRaises(SingularMatrix):
                invert_matrix(field, rows)

    def test_point_21_not_square(self):
        for rows in ([[1, 2]], [[1], [2]], [[1, 2], [1]], [[]], [[0, 0, 0], [0, 0, 0]]):
            with self.assertRaises(InvalidMatrix):
                determinant(Field(7), rows)
            with self.assertRaises(InvalidMatrix):
                invert_matrix(Field(7), rows)
