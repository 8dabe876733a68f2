"""Points 6 to 10: fields."""

import itertools
import unittest

from nearestword.errors import InvalidField, ZeroElement
from nearestword.fields import Field, int_power, is_prime, standard_field
from tests.support import LARGE_FIELDS, SMALL_FIELDS, digits_of, slow_negative, slow_plus, slow_times

PRIMES = (2, 3, 5, 7, 11, 13, 17, 19, 23, 29, 31)
ORDERS = sorted(p ** d for p in PRIMES for d in range(1, 9) if p ** d <= 256)


def products_of_degree(prime, degree):
    """All monic products of two monic polynomials of lower degrees, as tuples."""
    found = set()
    for low in range(1, degree // 2 + 1):
        firsts = [first + (1,) for first in itertools.product(range(prime), repeat=low)]
        seconds = [second + (1,) for second in itertools.product(range(prime), repeat=degree - low)]
        for first, second in itertools.product(firsts, seconds):
            product = [0] * (degree + 1)
            for i, x in enumerate(first):
                for j, y in enumerate(second):
                    product[i + j] = (product[i + j] + x * y) % prime
            found.add(tuple(product))
    return found


def moduli_of_degree(prime, degree):
    """All monic polynomials of the degree, compared by the coefficients from the highest one down."""
    return [low[::-1] + (1,) for low in itertools.product(range(prime), repeat=degree)]


def some_pairs(field):
    """All pairs of elements of a small field, some of a large one."""
    if field.order <= 32:
        return list(itertools.product(range(field.order), repeat=2))
    return [(a * 37 % field.order, a * a * 11 % field.order) for a in range(400)] + [
        (a, b) for a in (0, 1, field.prime, field.order - 1) for b in range(field.order)
    ]


class HelpersTest(unittest.TestCase):
    def test_int_power(self):
        for base in range(-5, 6):
            for exponent in range(12):
                self.assertEqual(int_power(base, exponent), base ** exponent)
        self.assertEqual(int_power(0, 0), 1)
        self.assertEqual(int_power(0, 1000), 0)
        self.assertEqual(int_power(-7, 999), (-7) ** 999)
        self.assertEqual(int_power(256, 1000), 256 ** 1000)

    def test_is_prime(self):
        for n in range(-20, 1001):
            self.assertIs(is_prime(n), n > 1 and all(n % d for d in range(2, n)))
        self.assertIs(is_prime(2), True)
        self.assertIs(is_prime(961), False)


class FieldMakingTest(unittest.TestCase):
    def assert_invalid(self, prime, modulus):
        with self.assertRaises(InvalidField):
            Field(prime, modulus)

    def test_point_6_attributes(self):
        field = Field(3, (2, 1, 1))
        self.assertEqual((field.prime, field.modulus, field.degree, field.order), (3, (2, 1, 1), 2, 9))
        field = Field(7)
        self.assertEqual((field.prime, field.modulus, field.degree, field.order), (7, (0, 1), 1, 7))

    def test_point_6_every_prime(self):
        for prime in range(-3, 40):
            if prime in PRIMES:
                self.assertEqual(Field(prime).order, prime)
            else:
                self.assert_invalid(prime, (0, 1))

    def test_point_6_every_polynomial_of_degree_1(self):
        for prime in (2, 3, 31):
            for constant in range(prime):
                self.assertEqual(Field(prime, (constant, 1)).order, prime)

    def test_point_6_single_conditions(self):
        self.assert_invalid(4, (0, 1))
        self.assert_invalid(37, (0, 1))
        self.assert_invalid(1, (0, 1))
        self.assert_invalid(3, ())
        self.assert_invalid(3, (1,))
        self.assert_invalid(3, (3, 1))
        self.assert_invalid(3, (-1, 1))
        self.assert_invalid(2, (1, 3, 1))
        self.assert_invalid(3, (1, 2))
        self.assert_invalid(3, (1, 0))
        self.assert_invalid(3, (1, 0, 1, 0))
        # Irreducible, of the order 289 and 512.
        self.assert_invalid(17, (14, 0, 1))
        self.assert_invalid(2, (1, 0, 0, 0, 1, 0, 0, 0, 0, 1))

    def test_point_6_reducible_moduli(self):
        self.assert_invalid(2, (1, 0, 1))
        self.assert_invalid(2, (0, 1, 1))
        self.assert_invalid(5, (1, 0, 1))
        # Without a root.
        self.assert_invalid(2, (1, 0, 1, 0, 1))
        self.assert_invalid(3, (1, 0, 2, 0, 1))

    def test_point_6_exactly_the_irreducible_moduli(self):
        for prime, degree in ((2, 2), (2, 3), (2, 4), (2, 6), (3, 2), (3, 3), (5, 2), (7, 2)):
            reducible = products_of_degree(prime, degree)
            for modulus in moduli_of_degree(prime, degree):
                if modulus in reducible:
                    self.assert_invalid(prime, modulus)
                else:
                    self.assertEqual(Field(prime, modulus).modulus, modulus)

    def test_point_6_degree_8(self):
        self.assertEqual(Field(2, (1, 1, 0, 1, 1, 0, 0, 0, 1)).order, 256)
        self.assert_invalid(2, (1, 1, 1, 1, 1, 1, 1, 1, 1))


class ArithmeticTest(unittest.TestCase):
    def test_point_7_digits_and_elements(self):
        for field in SMALL_FIELDS + LARGE_FIELDS:
            self.assertEqual(field.all_elements(), list(range(field.order)))
            for a in field.all_elements():
                digits = digits_of(a, field.prime, field.degree)
                self.assertEqual(field.digits(a), digits)
                self.assertEqual(field.element(digits), a)
        self.assertEqual(Field(3, (2, 1, 1)).digits(5), [2, 1])

    def test_point_7_sums_and_products(self):
        for field in SMALL_FIELDS + LARGE_FIELDS:
            for a, b in some_pairs(field):
                self.assertEqual(field.plus(a, b), slow_plus(field, a, b))
                self.assertEqual(field.times(a, b), slow_times(field, a, b))
                self.assertEqual(field.minus(a, b), slow_plus(field, a, slow_negative(field, b)))
            for a in field.all_elements():
                self.assertEqual(field.negative(a), slow_negative(field, a))

    def test_point_7_small_elements_are_integers_modulo_the_prime(self):
        for field in SMALL_FIELDS + LARGE_FIELDS:
            p = field.prime
            for a in range(p):
                for b in range(p):
                    self.assertEqual(field.plus(a, b), (a + b) % p)
                    self.assertEqual(field.minus(a, b), (a - b) % p)
                    self.assertEqual(field.times(a, b), a * b % p)

    def test_point_7_the_modulus_matters(self):
        self.assertEqual(Field(2, (1, 1, 0, 1)).times(4, 2), 3)
        self.assertEqual(Field(2, (1, 0, 1, 1)).times(4, 2), 5)

    def test_point_7_new_lists(self):
        field = Field(2, (1, 1, 1))
        field.digits(3).append(1)
        field.all_elements().append(9)
        self.assertEqual(field.digits(3), [1, 1])
        self.assertEqual(field.all_elements(), [0, 1, 2, 3])

    def test_point_8_inverses_and_quotients(self):
        for field in SMALL_FIELDS + LARGE_FIELDS:
            for b in range(1, field.order):
                inverse = field.inverse(b)
                self.assertEqual(slow_times(field, b, inverse), 1)
                for a in (0, 1, field.order - 1, b):
                    self.assertEqual(field.over(a, b), slow_times(field, a, inverse))

    def test_point_8_zero(self):
        for field in SMALL_FIELDS + LARGE_FIELDS:
            with self.assertRaises(ZeroElement):
                field.inverse(0)
            for a in (0, 1):
                with self.assertRaises(ZeroElement):
                    field.over(a, 0)

    def test_point_8_powers(self):
        for field in SMALL_FIELDS + LARGE_FIELDS[:1]:
            for a in field.all_elements():
                product = 1
                for exponent in range(field.order + 3):
                    self.assertEqual(field.power(a, exponent), product)
                    product = slow_times(field, product, a)

    def test_point_8_long_exponents(self):
        exponent = 9999999999999999999999999999999999999997
        for field in SMALL_FIELDS + LARGE_FIELDS:
            for a in (0, 1, field.order - 1, field.order // 2 + 1):
                a = a % field.order
                product, square, rest = 1, a, exponent
                while rest:
                    if rest % 2:
                        product = slow_times(field, product, square)
                    square = slow_times(field, square, square)
                    rest //= 2
                self.assertEqual(field.power(a, exponent), product)
            self.assertEqual(field.power(0, 0), 1)
            self.assertEqual(field.power(0, exponent), 0)

    def test_point_9_orders(self):
        for field in SMALL_FIELDS + LARGE_FIELDS:
            for a in range(1, field.order, 1 if field.order < 32 else 7):
                order, product = 1, a
                while product != 1:
                    order, product = order + 1, slow_times(field, product, a)
                self.assertEqual(field.order_of(a), order)

    def test_point_9_primitive_elements_and_logarithms(self):
        for field in SMALL_FIELDS + LARGE_FIELDS:
            primitive = field.primitive_element()
            whole = [a for a in range(1, field.order) if field.order_of(a) == field.order - 1]
            self.assertEqual(primitive, whole[0])
            product = 1
            for exponent in range(field.order - 1):
                self.assertEqual(field.log(product), exponent)
                product = slow_times(field, product, primitive)
        self.assertEqual(Field(2).primitive_element(), 1)
        self.assertEqual(Field(2).log(1), 0)
        self.assertEqual(Field(3).primitive_element(), 2)
        # The element 2, which is x, has the order 5 there.
        self.assertEqual(Field(2, (1, 1, 1, 1, 1)).primitive_element(), 3)

    def test_point_9_zero(self):
        for field in SMALL_FIELDS + LARGE_FIELDS:
            with self.assertRaises(ZeroElement):
                field.order_of(0)
            with self.assertRaises(ZeroElement):
                field.log(0)

    def test_same_as(self):
        field = Field(2, (1, 1, 0, 1))
        self.assertIs(field.same_as(field), True)
        self.assertIs(field.same_as(Field(2, (1, 1, 0, 1))), True)
        self.assertIs(field.same_as(Field(2, (1, 0, 1, 1))), False)
        self.assertIs(Field(3).same_as(Field(3, (1, 1))), False)
        self.assertIs(Field(3).same_as(Field(5)), False)
        self.assertIs(Field(5).same_as(standard_field(5)), True)


class StandardFieldTest(unittest.TestCase):
    def test_point_10_all_orders_that_are_let(self):
        for order in ORDERS:
            field = standard_field(order)
            self.assertEqual(field.order, order)
            reducible = products_of_degree(field.prime, field.degree)
            least = next(m for m in moduli_of_degree(field.prime, field.degree) if m not in reducible)
            self.assertEqual(field.modulus, least)
            if field.degree == 1:
                self.assertEqual(field.modulus, (0, 1))

    def test_point_10_known_moduli(self):
        self.assertEqual(standard_field(4).modulus, (1, 1, 1))
        self.assertEqual(standard_field(8).modulus, (1, 1, 0, 1))
        self.assertEqual(standard_field(9).modulus, (1, 0, 1))
        self.assertEqual(standard_field(25).modulus, (2, 0, 1))
        self.assertEqual(standard_field(256).modulus, (1, 1, 0, 1, 1, 0, 0, 0, 1))

    def test_point_10_all_other_orders(self):
        for order in list(range(-5, 300)) + [343, 361, 512, 961, 1024, 37 * 37]:
            if order not in ORDERS:
                with self.assertRaises(InvalidField):
                    standard_field(order)

    def test_point_10_new_objects(self):
        self.assertIsNot(standard_field(4), standard_field(4))
