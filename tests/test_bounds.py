"""Points 52 and 54 to 57: bounds, Varshamov codes, perfect and separable codes; point 46 beside them."""

import itertools
import math
import unittest
from fractions import Fraction

from nearestword.bounds import (
    ball, covering_holds, greatest_distance, griesmer_holds, griesmer_length, is_perfect, is_separable, packing_holds,
    plotkin_holds, singleton_holds, varshamov_code, varshamov_holds,
)
from nearestword.changes import dual
from nearestword.cosets import covering_radius
from nearestword.distances import errors_mended, lightest_words, minimum_distance, residual
from nearestword.enumerators import enumerator, separable_enumerator
from nearestword.errors import InvalidCode, TooLarge
from nearestword.families import hamming_code, parity_code, repetition_code, simplex_code, whole_code, zero_code
from nearestword.fields import Field, standard_field
from nearestword.linear import LinearCode, code_from_checks
from tests.support import SMALL_FIELDS, every_word, random_rows, slow_plus, slow_times, weight

FOUR_BOUNDS = (packing_holds, singleton_holds, griesmer_holds, plotkin_holds)


def slow_ball(q, n, radius):
    return sum(math.comb(n, j) * (q - 1) ** j for j in range(n + 1) if j <= radius)


def slow_bounds(q, n, k, d):
    griesmer = sum(math.ceil(Fraction(d, q ** i)) for i in range(k))
    return (
        q ** k * slow_ball(q, n, (d - 1) // 2) <= q ** n,
        d <= n - k + 1,
        griesmer <= n,
        d * (q ** k - 1) <= n * (q - 1) * q ** (k - 1),
    )


def slow_varshamov_columns(field, n, k, d):
    columns = []
    while len(columns) < n:
        sums = set()
        for many in range(d - 1):
            for chosen in itertools.combinations(columns, many):
                for factors in itertools.product(range(field.order), repeat=many):
                    total = [0] * (n - k)
                    for factor, column in zip(factors, chosen):
                        total = [slow_plus(field, x, slow_times(field, factor, y)) for x, y in zip(total, column)]
                    sums.add(tuple(total))
        columns.append(next(word for word in every_word(field, n - k) if tuple(word) not in sums))
    return columns


def some_codes():
    for field in SMALL_FIELDS:
        for seed, (many, length) in enumerate(((1, 1), (1, 3), (2, 3), (2, 4), (2, 5), (3, 6), (4, 7))):
            if field.order ** many <= 700:
                yield LinearCode(field, length, random_rows(540 + seed, field, many, length))


class BallTest(unittest.TestCase):
    def test_point_54_ball(self):
        for q in (2, 3, 4, 6, 10, 255, 256):
            for n in range(0, 9):
                for radius in range(-3, n + 4):
                    self.assertEqual(ball(q, n, radius), slow_ball(q, n, radius))

    def test_point_54_ball_counts_words(self):
        for field in (Field(2), Field(3), Field(2, (1, 1, 1))):
            for n in (0, 1, 4):
                for radius in range(-1, n + 2):
                    near = [word for word in every_word(field, n) if weight(word) <= radius]
                    self.assertEqual(ball(field.order, n, radius), len(near))

    def test_point_54_edges(self):
        self.assertEqual((ball(7, 0, 0), ball(7, 0, 5), ball(7, 0, -1), ball(7, 255, -10 ** 30)), (1, 1, 0, 0))
        self.assertEqual(ball(256, 255, 255), 256 ** 255)
        self.assertEqual(ball(256, 255, 10 ** 30), 256 ** 255)
        self.assertEqual(ball(2, 255, 127), 2 ** 254)
        self.assertEqual(ball(256, 255, 254), 256 ** 255 - 255 ** 255)

    def test_point_54_limits(self):
        for arguments in ((1, 3, 1), (0, 3, 1), (-2, 3, 1), (257, 3, 1), (2, -1, 1), (2, 256, 1)):
            with self.assertRaises(InvalidCode):
                ball(*arguments)
        for arguments in ((2, 3, 1), (256, 3, 1), (2, 0, 1), (2, 255, 1)):
            self.assertGreater(ball(*arguments), 0)


class BoundsTest(unittest.TestCase):
    def test_point_55_four_bounds(self):
        for q in (2, 3, 4, 6, 16, 256):
            for n in range(1, 11):
                for k in range(1, n + 1):
                    for d in range(1, n + 1):
                        found = tuple(holds(q, n, k, d) for holds in FOUR_BOUNDS)
                        self.assertEqual(found, slow_bounds(q, n, k, d), (q, n, k, d))

    def test_point_55_just_kept_and_just_broken(self):
        # 2 ** 4 * (1 + 7) is 2 ** 7.
        self.assertTrue(packing_holds(2, 7, 4, 3) and packing_holds(2, 7, 4, 4))
        self.assertFalse(packing_holds(2, 7, 5, 3) or packing_holds(2, 6, 4, 3) or packing_holds(2, 7, 4, 5))
        # 1 + 8 is one more than 2 ** 3.
        self.assertFalse(packing_holds(2, 8, 5, 3))
        self.assertTrue(packing_holds(2, 23, 12, 7) and packing_holds(3, 11, 6, 5))
        self.assertFalse(packing_holds(2, 22, 12, 7) or packing_holds(3, 10, 6, 5))
        self.assertTrue(singleton_holds(5, 6, 3, 4) and singleton_holds(5, 6, 6, 1) and singleton_holds(5, 6, 1, 6))
        self.assertFalse(singleton_holds(5, 6, 3, 5) or singleton_holds(5, 6, 6, 2) or singleton_holds(5, 6, 2, 6))
        # 4 + 2 + 1 is 7, and 5 + 3 + 2 is 10.
        self.assertTrue(griesmer_holds(2, 7, 3, 4) and griesmer_holds(2, 10, 3, 5))
        self.assertFalse(griesmer_holds(2, 6, 3, 4) or griesmer_holds(2, 9, 3, 5))
        # 4 * 7 is 7 * 4, 3 * 8 is 4 * 2 * 3, and 3 * 3 is one more than 4 * 2.
        self.assertTrue(plotkin_holds(2, 7, 3, 4))
        self.assertFalse(plotkin_holds(2, 7, 3, 5) or plotkin_holds(2, 6, 3, 4) or plotkin_holds(2, 7, 4, 4))
        self.assertTrue(plotkin_holds(3, 4, 2, 3))
        self.assertFalse(plotkin_holds(3, 4, 2, 4) or plotkin_holds(2, 4, 2, 3))

    def test_point_55_griesmer_length(self):
        for q in (2, 3, 6, 256):
            for k in (1, 2, 3, 8, 255):
                for d in (1, 2, 3, 7, 8, 9, 255):
                    expected = sum(math.ceil(Fraction(d, q ** i)) for i in range(k))
                    self.assertEqual(griesmer_length(q, k, d), expected)
        self.assertEqual(griesmer_length(2, 255, 255), 255 + 128 + 64 + 32 + 16 + 8 + 4 + 2 + 247)
        for arguments in ((1, 1, 1), (257, 1, 1), (2, 0, 1), (2, 256, 1), (2, 1, 0), (2, 1, 256)):
            with self.assertRaises(InvalidCode):
                griesmer_length(*arguments)

    def test_point_55_greatest_distance(self):
        for q in (2, 3, 5, 6, 256):
            for n in range(1, 12):
                for k in range(1, n + 1):
                    kept = [d for d in range(1, n + 1) if all(slow_bounds(q, n, k, d))]
                    self.assertEqual(greatest_distance(q, n, k), max(kept))
        for n in (1, 2, 77, 255):
            self.assertEqual((greatest_distance(6, n, 1), greatest_distance(6, n, n)), (n, 1))

    def test_point_55_codes_keep_the_bounds(self):
        for code in some_codes():
            if code.dimension > 0:
                q, n, k, d = code.field.order, code.length, code.dimension, minimum_distance(code)
                self.assertTrue(all(holds(q, n, k, d) for holds in FOUR_BOUNDS))
                self.assertLessEqual(d, greatest_distance(q, n, k))

    def test_points_46_and_55_residual_and_griesmer(self):
        seen = 0
        for code in [*some_codes(), simplex_code(Field(2), 4), simplex_code(Field(3), 3), hamming_code(Field(2), 3)]:
            q, n, k = code.field.order, code.length, code.dimension
            d = minimum_distance(code)
            if k == 0 or d == n:
                continue
            for word in lightest_words(code):
                rest = residual(code, word)
                self.assertEqual((rest.length, rest.dimension), (n - d, k - 1))
                if k > 1:
                    least = minimum_distance(rest)
                    self.assertGreaterEqual(least * q, d)
                    self.assertGreaterEqual(rest.length, griesmer_length(q, k - 1, least))
                    self.assertGreaterEqual(n, d + griesmer_length(q, k - 1, least))
                    self.assertEqual(griesmer_length(q, k, d), d + griesmer_length(q, k - 1, -(-d // q)))
                    seen += 1
        self.assertGreater(seen, 50)

    def test_points_55_and_56_limits(self):
        for holds in FOUR_BOUNDS + (varshamov_holds,):
            for arguments in (
                (1, 4, 2, 2), (257, 4, 2, 2), (-3, 4, 2, 2), (2, 0, 0, 0), (2, 256, 2, 2), (2, 4, 0, 2), (2, 4, 5, 1),
                (2, 4, 2, 0), (2, 4, 2, 5), (2, 4, -1, 2), (2, 4, 2, -1), (2, 0, 1, 1), (2, -1, 1, 1),
            ):
                with self.assertRaises(InvalidCode):
                    holds(*arguments)
            for arguments in ((2, 4, 2, 2), (256, 4, 2, 2), (2, 1, 1, 1), (2, 255, 1, 1), (2, 4, 4, 1), (2, 4, 1, 4)):
                self.assertIn(holds(*arguments), (True, False))
        for arguments in ((1, 4, 2), (257, 4, 2), (2, 0, 0), (2, 256, 2), (2, 4, 0), (2, 4, 5)):
            with self.assertRaises(InvalidCode):
                greatest_distance(*arguments)

    def test_points_55_and_56_great_numbers(self):
        self.assertTrue(packing_holds(256, 255, 1, 255) and packing_holds(256, 255, 255, 2))
        self.assertFalse(packing_holds(256, 255, 255, 3))
        self.assertTrue(plotkin_holds(256, 255, 128, 128) and griesmer_holds(256, 255, 128, 128))
        self.assertEqual(greatest_distance(256, 255, 128), 128)
        self.assertTrue(varshamov_holds(2, 255, 247, 2))
        self.assertFalse(varshamov_holds(256, 255, 128, 128))


class VarshamovTest(unittest.TestCase):
    def test_point_56_condition(self):
        for q in (2, 3, 4, 6, 256):
            for n in range(1, 10):
                for k in range(1, n + 1):
                    for d in range(1, n + 1):
                        expected = slow_ball(q, n - 1, d - 2) < q ** (n - k)
                        self.assertEqual(varshamov_holds(q, n, k, d), expected)

    def test_point_56_just_kept_and_just_broken(self):
        # The ball of the radius 1 for the order 2 and the length n - 1 is n.
        self.assertTrue(varshamov_holds(2, 7, 4, 3) and varshamov_holds(2, 15, 11, 3))
        self.assertFalse(varshamov_holds(2, 8, 5, 3) or varshamov_holds(2, 16, 12, 3))
        # The ball of the radius 1 for the order 3 and the length 12 is 25, for the length 13 it is 27.
        self.assertTrue(varshamov_holds(3, 13, 10, 3))
        self.assertFalse(varshamov_holds(3, 14, 11, 3))
        self.assertTrue(varshamov_holds(2, 9, 9, 1) and varshamov_holds(2, 9, 8, 2))
        self.assertFalse(varshamov_holds(2, 9, 9, 2))

    def test_point_56_code(self):
        cases = [
            (Field(2), (5, 6, 8)), (Field(3), (4, 5)), (Field(2, (1, 1, 1)), (4, 5)), (Field(5), (4,)), (Field(3, (2, 1, 1)), (3,)),
        ]
        seen = 0
        for field, lengths in cases:
            for n, k in ((n, k) for n in lengths for k in range(1, n + 1)):
                for d in range(1, n + 1):
                    if not varshamov_holds(field.order, n, k, d):
                        with self.assertRaises(InvalidCode):
                            varshamov_code(field, n, k, d)
                        continue
                    if field.order ** (n - k) > 700:
                        continue
                    columns = slow_varshamov_columns(field, n, k, d)
                    checks = [[column[i] for column in columns] for i in range(n - k)]
                    code = varshamov_code(field, n, k, d)
                    self.assertEqual(code.rows, code_from_checks(field, n, checks).rows[:k])
                    self.assertEqual((code.field, code.length, code.dimension), (field, n, k))
                    self.assertGreaterEqual(minimum_distance(code), d)
                    seen += 1
        self.assertGreater(seen, 80)

    def test_point_56_small_distances_and_dependent_columns(self):
        field = Field(3)
        # With the distance 1 all checks are 0, so the code before it is cut is the whole one.
        self.assertEqual(varshamov_code(field, 4, 2, 1).rows, [[1, 0, 0, 0], [0, 1, 0, 0]])
        # With the distance 2 every column is [0, 1].
        self.assertEqual(varshamov_code(field, 4, 2, 2).rows, [[1, 0, 0, 2], [0, 1, 0, 2]])
        self.assertEqual(varshamov_code(field, 4, 4, 1).rows, whole_code(field, 4).rows)
        # The columns 001, 010, 011, 100 and so on of a Hamming code.
        self.assertEqual(varshamov_code(Field(2), 7, 4, 3).rows, hamming_code(Field(2), 3).rows)

    def test_point_56_limits(self):
        field = Field(2)
        for arguments in ((0, 1, 1), (256, 1, 1), (4, 0, 1), (4, 5, 1), (4, 2, 0), (4, 2, 5), (-1, 1, 1)):
            with self.assertRaises(InvalidCode):
                varshamov_code(field, *arguments)
        # The condition comes before the size.
        with self.assertRaises(InvalidCode):
            varshamov_code(field, 30, 16, 30)
        self.assertEqual(varshamov_code(field, 255, 243, 2).dimension, 243)
        self.assertEqual(varshamov_code(field, 13, 1, 4).dimension, 1)
        self.assertEqual(varshamov_code(standard_field(64), 4, 2, 3).dimension, 2)
        for other, arguments in ((field, (14, 1, 4)), (field, (255, 242, 2)), (standard_field(64), (4, 1, 3))):
            with self.assertRaises(TooLarge):
                varshamov_code(other, *arguments)
        with self.assertRaises(TooLarge):
            varshamov_code(standard_field(256), 255, 1, 1)


class CoveringTest(unittest.TestCase):
    def test_point_57_covering_condition(self):
        for q in (2, 3, 4, 6, 256):
            for n in range(1, 9):
                for k in range(0, n + 1):
                    for radius in range(0, n + 1):
                        expected = q ** k * slow_ball(q, n, radius) >= q ** n
                        self.assertEqual(covering_holds(q, n, k, radius), expected)
        self.assertTrue(covering_holds(2, 7, 4, 1))
        self.assertFalse(covering_holds(2, 8, 4, 1) or covering_holds(2, 7, 4, 0))
        self.assertTrue(covering_holds(9, 255, 0, 255))
        self.assertFalse(covering_holds(9, 255, 0, 254))

    def test_point_57_limits(self):
        for arguments in (
            (1, 4, 2, 2), (257, 4, 2, 2), (2, 0, 0, 0), (2, 256, 2, 2), (2, 4, -1, 2), (2, 4, 5, 2), (2, 4, 2, -1), (2, 4, 2, 5),
        ):
            with self.assertRaises(InvalidCode):
                covering_holds(*arguments)
        for arguments in ((2, 1, 0, 0), (256, 255, 255, 255), (2, 4, 4, 0)):
            self.assertIn(covering_holds(*arguments), (True, False))

    def test_point_57_covering_radius_of_codes(self):
        for code in some_codes():
            radius = covering_radius(code)
            self.assertTrue(covering_holds(code.field.order, code.length, code.dimension, radius))

    def test_point_57_perfect(self):
        for code in some_codes():
            radius = errors_mended(code)
            expected = code.size * slow_ball(code.field.order, code.length, radius) == code.field.order ** code.length
            self.assertEqual(is_perfect(code), expected)
            self.assertEqual(covering_radius(code) == radius, expected)

    def test_point_57_perfect_and_other_families(self):
        two, four = Field(2), Field(2, (1, 1, 1))
        for length in range(1, 10):
            self.assertEqual(is_perfect(repetition_code(two, length)), length % 2 == 1)
            self.assertEqual(is_perfect(repetition_code(Field(3), length)), length == 1)
            self.assertTrue(is_perfect(zero_code(four, length)))
        for field, redundancy in ((two, 2), (two, 3), (Field(3), 2), (four, 2)):
            self.assertTrue(is_perfect(hamming_code(field, redundancy)))
        self.assertTrue(is_perfect(whole_code(two, 12)) and is_perfect(zero_code(two, 255)))
        self.assertFalse(is_perfect(parity_code(two, 4)) or is_perfect(simplex_code(two, 3)))

    def test_points_52_and_57_limit(self):
        for order, dimension in ((2, 12), (16, 3), (64, 2)):
            field = standard_field(order)
            self.assertTrue(is_perfect(whole_code(field, dimension)) and is_separable(whole_code(field, dimension)))
            for tells in (is_perfect, is_separable):
                with self.assertRaises(TooLarge):
                    tells(whole_code(field, dimension + 1))


class SeparableTest(unittest.TestCase):
    def test_point_52_separable(self):
        seen = set()
        for code in some_codes():
            distance = minimum_distance(code)
            expected = distance is None or distance == code.length - code.dimension + 1
            self.assertEqual(is_separable(code), expected)
            seen.add(expected)
            if expected:
                counts = separable_enumerator(code.field.order, code.length, code.dimension)
                self.assertEqual(enumerator(code), counts)
                if dual(code).size <= 4096:
                    self.assertTrue(is_separable(dual(code)))
        self.assertEqual(seen, {True, False})

    def test_point_52_families(self):
        for field in (Field(2), Field(5)):
            for length in (1, 2, 5):
                self.assertTrue(is_separable(zero_code(field, length)) and is_separable(repetition_code(field, length)))
                self.assertTrue(is_separable(parity_code(field, length)) and is_separable(whole_code(field, length)))
        self.assertTrue(is_separable(zero_code(Field(2), 255)))
        self.assertFalse(is_separable(hamming_code(Field(2), 3)) or is_separable(LinearCode(Field(2), 3, [[1, 1, 0]])))
        self.assertTrue(is_separable(hamming_code(Field(3), 2)))
