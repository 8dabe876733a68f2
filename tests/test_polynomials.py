"""Points 11 to 16: polynomials."""

import itertools
import unittest

from nearestword.errors import InvalidPoints, TooLarge, ZeroPolynomial
from nearestword.fields import Field, standard_field
from nearestword.polynomials import (
    degree_of, interpolate, poly_add, poly_bezout, poly_derivative, poly_divide, poly_evaluate, poly_factors,
    poly_from_roots, poly_gcd, poly_multiply, poly_roots, poly_scale, poly_subtract, poly_trim,
)
from tests.support import SMALL_FIELDS, random_rows, slow_negative, slow_plus, slow_times

FIELDS = SMALL_FIELDS + (standard_field(256),)


def polynomials(field, size):
    """All polynomials with at most so many coefficients, in ascending order."""
    found = []
    for many in range(size + 1):
        for word in itertools.product(range(field.order), repeat=many):
            if not word or word[0] != 0:
                found.append(list(word[::-1]))
    return found


def some_polynomials(field):
    if field.order <= 3:
        return polynomials(field, 3)
    picked = [[], [1], [field.order - 1], [0, 1], [2, 1], [0, 0, 1]]
    return picked + [poly_trim(row[:5 - at % 4]) for at, row in enumerate(random_rows(3, field, 12, 5))]


def slow_product(field, a, b):
    product = [0] * max(0, len(a) + len(b) - 1)
    for i, x in enumerate(a):
        for j, y in enumerate(b):
            product[i + j] = slow_plus(field, product[i + j], slow_times(field, x, y))
    return product if a and b else []


def slow_value(field, poly, point):
    value, power = 0, 1
    for item in poly:
        value = slow_plus(field, value, slow_times(field, item, power))
        power = slow_times(field, power, point)
    return value


class FormTest(unittest.TestCase):
    def test_point_11_degree(self):
        self.assertEqual([degree_of([]), degree_of([3]), degree_of([0, 1]), degree_of([0] * 255 + [1])], [-1, 0, 1, 255])

    def test_point_11_trim(self):
        self.assertEqual(poly_trim([]), [])
        self.assertEqual(poly_trim([0, 0]), [])
        self.assertEqual(poly_trim([0, 1, 0, 2, 0, 0]), [0, 1, 0, 2])
        items = [1, 2]
        trimmed = poly_trim(items)
        self.assertEqual(trimmed, [1, 2])
        self.assertIsNot(trimmed, items)


class ArithmeticTest(unittest.TestCase):
    def test_point_12_sums_differences_products(self):
        for field in FIELDS:
            for a, b in itertools.product(some_polynomials(field), repeat=2):
                size = max(len(a), len(b))
                first, second = a + [0] * (size - len(a)), b + [0] * (size - len(b))
                total = [slow_plus(field, x, y) for x, y in zip(first, second)]
                less = [slow_plus(field, x, slow_negative(field, y)) for x, y in zip(first, second)]
                self.assertEqual(poly_add(field, a, b), poly_trim(total))
                self.assertEqual(poly_subtract(field, a, b), poly_trim(less))
                self.assertEqual(poly_multiply(field, a, b), slow_product(field, a, b))

    def test_point_12_multiples(self):
        for field in FIELDS:
            for poly in some_polynomials(field):
                self.assertEqual(poly_scale(field, poly, 0), [])
                for factor in range(1, field.order, 1 if field.order < 10 else 50):
                    self.assertEqual(poly_scale(field, poly, factor), [slow_times(field, x, factor) for x in poly])

    def test_point_12_division(self):
        for field in FIELDS:
            for poly, divisor in itertools.product(some_polynomials(field), repeat=2):
                if divisor:
                    quotient, remainder = poly_divide(field, poly, divisor)
                    self.assertLess(len(remainder), len(divisor))
                    self.assertEqual(poly_trim(quotient), quotient)
                    self.assertEqual(poly_trim(remainder), remainder)
                    self.assertEqual(poly_add(field, poly_multiply(field, quotient, divisor), remainder), poly)

    def test_point_12_division_edges(self):
        field = Field(3)
        self.assertEqual(poly_divide(field, [], [2]), ([], []))
        self.assertEqual(poly_divide(field, [1, 2], [2]), ([2, 1], []))
        self.assertEqual(poly_divide(field, [1, 2], [0, 0, 1]), ([], [1, 2]))
        self.assertIsInstance(poly_divide(field, [1], [1]), tuple)
        for poly in ([], [1], [1, 2]):
            with self.assertRaises(ZeroPolynomial):
                poly_divide(field, poly, [])

    def test_point_12_long_polynomials(self):
        field = standard_field(256)
        a, b = [row + [1] for row in random_rows(8, field, 2, 120)]
        product = poly_multiply(field, a, b)
        self.assertEqual(len(product), 241)
        self.assertEqual(poly_divide(field, product, b), (a, []))

    def test_new_lists(self):
        field = Field(5)
        poly = [1, 2]
        results = [
            poly_add(field, poly, []), poly_add(field, [], poly), poly_subtract(field, poly, []),
            poly_multiply(field, poly, [1]), poly_scale(field, poly, 1), poly_divide(field, poly, [1])[0],
            poly_divide(field, poly, [0, 0, 1])[1], poly_gcd(field, poly, []), poly_gcd(field, [], [3, 1]),
        ]
        for result in results:
            result.append(4)
        self.assertEqual(poly, [1, 2])


class DivisorTest(unittest.TestCase):
    def check(self, field, a, b):
        g, u, v = poly_bezout(field, a, b)
        self.assertEqual(poly_gcd(field, a, b), g)
        for poly in (g, u, v):
            self.assertEqual(poly_trim(poly), poly)
        self.assertEqual(poly_add(field, poly_multiply(field, u, a), poly_multiply(field, v, b)), g)
        if not a and not b:
            self.assertEqual((g, u, v), ([], [], []))
            return
        self.assertEqual(g[-1], 1)
        self.assertEqual([poly_divide(field, poly, g)[1] for poly in (a, b)], [[], []])
        if b:
            self.assertLess(degree_of(u), degree_of(b) - degree_of(g))
        else:
            self.assertEqual((u, v), ([field.inverse(a[-1])], []))

    def test_point_13_many_pairs(self):
        for field in FIELDS:
            for a, b in itertools.product(some_polynomials(field), repeat=2):
                self.check(field, a, b)
        for a, b in itertools.product(polynomials(Field(2), 5), repeat=2):
            self.check(Field(2), a, b)

    def test_point_13_highest_degree(self):
        field = Field(2)
        everything = polynomials(field, 4)
        for a, b in itertools.product(everything, repeat=2):
            if a or b:
                common = [
                    d for d in everything
                    if d and not poly_divide(field, a, d)[1] and not poly_divide(field, b, d)[1]
                ]
                self.assertEqual(poly_gcd(field, a, b), max(common, key=len))

    def test_point_13_zeros_and_divisors(self):
        field = Field(5)
        self.assertEqual(poly_bezout(field, [], []), ([], [], []))
        self.assertEqual(poly_bezout(field, [1, 2], []), ([3, 1], [3], []))
        self.assertEqual(poly_bezout(field, [], [1, 2]), ([3, 1], [], [3]))
        product = poly_multiply(field, [1, 2], [4, 4, 3])
        self.assertEqual(poly_bezout(field, product, [1, 2]), ([3, 1], [], [3]))
        self.assertEqual(poly_bezout(field, [1, 2], product), ([3, 1], [3], []))
        self.assertEqual(poly_bezout(field, [2], [4]), ([1], [], [4]))
        self.assertEqual(poly_gcd(field, [], []), [])


class ValueTest(unittest.TestCase):
    def test_point_14_values_and_roots(self):
        for field in FIELDS:
            for poly in some_polynomials(field):
                values = [slow_value(field, poly, point) for point in field.all_elements()]
                self.assertEqual([poly_evaluate(field, poly, point) for point in field.all_elements()], values)
                if poly:
                    self.assertEqual(poly_roots(field, poly), [at for at, value in enumerate(values) if value == 0])

    def test_point_14_zero_polynomial(self):
        self.assertEqual(poly_evaluate(Field(5), [], 3), 0)
        self.assertEqual(poly_derivative(Field(5), []), [])
        with self.assertRaises(ZeroPolynomial):
            poly_roots(Field(5), [])

    def test_point_14_derivative(self):
        field = Field(3, (2, 1, 1))
        self.assertEqual(poly_derivative(field, [5, 7, 8, 4, 3]), [7, field.times(2, 8), 0, 3])
        self.assertEqual(poly_derivative(field, [5, 0, 0, 4]), [])
        self.assertEqual(poly_derivative(field, [5]), [])
        self.assertEqual(poly_derivative(Field(2), [1, 1, 1, 1]), [1, 0, 1])
        self.assertEqual(poly_derivative(Field(5), [0, 0, 0, 1, 0, 0, 1]), [0, 0, 3, 0, 0, 1])

    def test_from_roots(self):
        for field in FIELDS:
            roots = [0, 1, 1, field.order - 1]
            poly = [1]
            for root in roots:
                poly = slow_product(field, poly, [slow_negative(field, root), 1])
            self.assertEqual(poly_from_roots(field, roots), poly)
            self.assertEqual(poly_roots(field, poly), sorted(set(roots)))
            self.assertEqual(poly_from_roots(field, []), [1])
            self.assertEqual(poly_from_roots(field, [0, 0]), [0, 0, 1])


class InterpolationTest(unittest.TestCase):
    def test_point_15_it_is_the_polynomial(self):
        for field in SMALL_FIELDS:
            points = field.all_elements()[::-1][:4]
            for row in random_rows(15, field, 20, len(points)):
                poly = interpolate(field, points, row)
                self.assertLess(degree_of(poly), len(points))
                self.assertEqual(poly_trim(poly), poly)
                self.assertEqual([slow_value(field, poly, point) for point in points], row)

    def test_point_15_all_points_of_a_large_field(self):
        field = standard_field(256)
        values = random_rows(16, field, 1, 256)[0]
        poly = interpolate(field, field.all_elements(), values)
        self.assertLess(degree_of(poly), 256)
        self.assertEqual([poly_evaluate(field, poly, point) for point in field.all_elements()], values)

    def test_point_15_edges(self):
        field = Field(5)
        self.assertEqual(interpolate(field, [], []), [])
        self.assertEqual(interpolate(field, [3], [0]), [])
        self.assertEqual(interpolate(field, [3], [4]), [4])
        self.assertEqual(interpolate(field, [0, 1, 2], [1, 1, 1]), [1])

    def test_point_15_wrong_lists(self):
        for points, values in (([], [1]), ([1], []), ([1, 2], [3]), ([1, 1], [2, 2]), ([1, 2, 1], [0, 0, 1])):
            with self.assertRaises(InvalidPoints):
                interpolate(Field(5), points, values)


class FactorsTest(unittest.TestCase):
    def irreducible(self, field, size):
        """All monic irreducible polynomials with at most so many coefficients, in ascending order."""
        monic = [poly for poly in polynomials(field, size) if len(poly) > 1 and poly[-1] == 1]
        products = [
            poly_multiply(field, a, b)
            for a, b in itertools.product(monic, repeat=2) if len(a) + len(b) - 1 <= size
        ]
        return [poly for poly in monic if poly not in products]

    def test_point_16_products_of_factors(self):
        for field, size in ((Field(2), 6), (Field(3), 4), (Field(2, (1, 1, 1)), 3)):
            irreducible = self.irreducible(field, size)
            for poly in polynomials(field, size):
                if poly:
                    factors = poly_factors(field, poly)
                    product = [poly[-1]]
                    for factor, count in factors:
                        self.assertIn(factor, irreducible)
                        self.assertGreaterEqual(count, 1)
                        for _ in range(count):
                            product = poly_multiply(field, product, factor)
                    self.assertEqual(product, poly)
                    places = [irreducible.index(factor) for factor, _ in factors]
                    self.assertEqual(places, sorted(set(places)))

    def test_point_16_known_factors(self):
        field = Field(2)
        self.assertEqual(
            poly_factors(field, [1, 0, 0, 0, 0, 0, 0, 1]), [([1, 1], 1), ([1, 1, 0, 1], 1), ([1, 0, 1, 1], 1)]
        )
        self.assertEqual(poly_factors(field, [0, 0, 0, 1]), [([0, 1], 3)])
        self.assertEqual(poly_factors(Field(3), [2]), [])
        self.assertEqual(poly_factors(Field(3), [2, 2]), [([1, 1], 1)])
        self.assertEqual(poly_factors(Field(5), [1, 0, 2]), [([3, 0, 1], 1)])
        self.assertIsInstance(poly_factors(field, [1, 1])[0], tuple)

    def test_point_16_ascending_order(self):
        field = Field(5)
        # Of one degree, the highest coefficient decides first.
        poly = poly_multiply(field, [2, 0, 1], poly_multiply(field, [1, 1, 1], [4, 1]))
        self.assertEqual(poly_factors(field, poly), [([4, 1], 1), ([2, 0, 1], 1), ([1, 1, 1], 1)])

    def test_point_16_zero(self):
        with self.assertRaises(ZeroPolynomial):
            poly_factors(Field(2), [])

    def test_point_16_limit(self):
        ones = Field(2)
        self.assertEqual(poly_factors(ones, [0] * 25 + [1]), [([0, 1], 25)])
        # x ** 25 + x ** 3 + 1 is irreducible.
        trinomial = [1, 0, 0, 1] + [0] * 21 + [1]
        self.assertEqual(poly_factors(ones, trinomial), [(trinomial, 1)])
        field = standard_field(64)
        self.assertEqual(poly_factors(field, [0] * 5 + [7]), [([0, 1], 5)])
        large = standard_field(256)
        self.assertEqual(poly_factors(large, [0, 0, 0, 9]), [([0, 1], 3)])
        for place, power in ((ones, 26), (field, 6), (large, 4), (large, 255)):
            with self.assertRaises(TooLarge):
                poly_factors(place, [0] * power + [1])

    def test_point_16_new_lists(self):
        poly = [1, 1]
        poly_factors(Field(2), poly)[0][0].append(1)
        self.assertEqual(poly, [1, 1])
