"""Points 78 to 80: the key equation, and shortest registers."""

import itertools
import random
import unittest

from nearestword.errors import ZeroPolynomial
from nearestword.fields import Field, standard_field
from nearestword.keyequation import key_equation, shortest_register
from nearestword.matrices import solve
from nearestword.polynomials import (
    poly_divide, poly_gcd, poly_multiply, poly_scale, poly_subtract, poly_trim,
)
from tests.support import SMALL_FIELDS, every_word, slow_plus, slow_times


def degree(poly):
    return len(poly) - 1


def slow_key_equation(field, modulus, value, bound):
    rows = [(modulus, []), (value, [1])]
    while rows[-1][0] != []:
        quotient, rest = poly_divide(field, rows[-2][0], rows[-1][0])
        rows.append((rest, poly_subtract(field, rows[-2][1], poly_multiply(field, quotient, rows[-1][1]))))
    top, bottom = next(row for row in rows[1:] if degree(row[0]) < bound)
    factor = field.inverse(bottom[-1])
    return (poly_scale(field, top, factor), poly_scale(field, bottom, factor))


def all_polys(field, size):
    """All polynomials with at most so many items."""
    return [poly_trim(word) for word in every_word(field, size)]


def fits(field, modulus, value, top, bottom):
    rest = poly_subtract(field, top, poly_divide(field, poly_multiply(field, bottom, value), modulus)[1])
    return poly_divide(field, rest, modulus)[1] == []


def is_register(field, poly, length, sequence):
    if not poly or poly[0] != 1 or len(poly) - 1 > length or poly[-1] == 0:
        return False
    for i in range(length, len(sequence)):
        total = 0
        for j, item in enumerate(poly):
            total = slow_plus(field, total, slow_times(field, item, sequence[i - j]))
        if total != 0:
            return False
    return True


def slow_length(field, sequence):
    length = 0
    while True:
        for rest in every_word(field, length):
            if is_register(field, poly_trim([1] + rest), length, sequence):
                return length
        length += 1


class KeyEquationTest(unittest.TestCase):
    def test_points_78_and_79_small_polynomials(self):
        for field in (Field(2), Field(3)):
            for size in range(0, 5 if field.order == 2 else 4):
                for modulus in (word + [lead] for word in every_word(field, size) for lead in range(1, field.order)):
                    for value in all_polys(field, size):
                        for bound in range(size + 1):
                            found = key_equation(field, modulus, value, bound)
                            self.assertEqual(found, slow_key_equation(field, modulus, value, bound))

    def test_points_78_and_79_properties(self):
        for field in SMALL_FIELDS:
            source = random.Random(79)
            for _ in range(60):
                size = source.randrange(1, 9)
                modulus = [source.randrange(field.order) for _ in range(size)] + [source.randrange(1, field.order)]
                value = poly_trim([source.randrange(field.order) for _ in range(source.randrange(size + 1))])
                for bound in range(size + 1):
                    top, bottom = key_equation(field, modulus, value, bound)
                    self.assertEqual((top, bottom), slow_key_equation(field, modulus, value, bound))
                    self.assertEqual(bottom[-1], 1)
                    self.assertLess(degree(top), bound)
                    self.assertLessEqual(degree(bottom), size - bound)
                    self.assertTrue(fits(field, modulus, value, top, bottom))

    def test_point_79_two_solutions(self):
        field = Field(2)
        modulus = [1, 0, 1, 1, 1]
        for value in all_polys(field, 4):
            for bound in range(5):
                a, b = key_equation(field, modulus, value, bound)
                for c, d in itertools.product(all_polys(field, bound), all_polys(field, 5 - bound)):
                    if fits(field, modulus, value, c, d):
                        self.assertEqual(poly_multiply(field, a, d), poly_multiply(field, b, c))

    def test_point_79_edges(self):
        field = Field(5)
        for modulus in ([3], [0, 2], [1, 2, 3], [0, 0, 0, 1]):
            for bound in range(len(modulus)):
                self.assertEqual(key_equation(field, modulus, [], bound), ([], [1]))
        # The bound that is the degree of the modulus is kept by the value itself.
        self.assertEqual(key_equation(field, [0, 0, 0, 1], [1, 2, 3], 3), ([1, 2, 3], [1]))
        # For the bound 0 the top is zero; the bottom is the modulus without what it shares with the value.
        modulus, value = poly_multiply(field, [1, 1], [2, 1]), [3, 3]
        self.assertEqual(poly_gcd(field, modulus, value), [1, 1])
        self.assertEqual(key_equation(field, modulus, value, 0), ([], [2, 1]))
        self.assertEqual(key_equation(field, modulus, value, 1), ([], [2, 1]))
        self.assertEqual(key_equation(field, [0, 0, 2], [1, 3], 0), ([], [0, 0, 1]))
        self.assertEqual(key_equation(field, modulus, value, 2), ([3, 3], [1]))
        self.assertIsInstance(key_equation(field, modulus, value, 2), tuple)

    def test_point_79_zero_modulus(self):
        for field in (Field(2), standard_field(256)):
            for value in ([], [1], [1, 1]):
                for bound in (0, 1):
                    with self.assertRaises(ZeroPolynomial):
                        key_equation(field, [], value, bound)


class ShortestRegisterTest(unittest.TestCase):
    def test_point_80_every_small_sequence(self):
        for field, most in ((Field(2), 9), (Field(3), 6), (Field(2, (1, 1, 1)), 4)):
            for many in range(most):
                for sequence in every_word(field, many):
                    poly, length = shortest_register(field, sequence)
                    self.assertTrue(is_register(field, poly, length, sequence))
                    self.assertEqual(length, slow_length(field, sequence))

    def test_point_80_edges(self):
        for field in SMALL_FIELDS:
            self.assertEqual(shortest_register(field, []), ([1], 0))
            self.assertEqual(shortest_register(field, [0] * 10), ([1], 0))
            for item in (1, field.order - 1):
                for zeros in (0, 1, 5, 254):
                    sequence = [0] * zeros + [item]
                    poly, length = shortest_register(field, sequence)
                    self.assertEqual(length, zeros + 1)
                    self.assertTrue(is_register(field, poly, length, sequence))
        self.assertIsInstance(shortest_register(Field(2), []), tuple)

    def test_point_80_sequences_that_a_register_makes(self):
        for field in SMALL_FIELDS + (standard_field(256), Field(31)):
            source = random.Random(80)
            for length in (1, 2, 3, 5):
                rest = [source.randrange(field.order) for _ in range(length - 1)] + [source.randrange(1, field.order)]
                sequence = [0] * (length - 1) + [1]
                while len(sequence) < 20:
                    total = 0
                    for j, item in enumerate(rest, 1):
                        total = slow_plus(field, total, slow_times(field, item, sequence[-j]))
                    sequence.append(field.negative(total))
                # Twice the length is enough for one polynomial alone.
                self.assertEqual(shortest_register(field, sequence), ([1] + rest, length))

    def test_point_80_long_sequences(self):
        for field in (Field(2), Field(31), standard_field(256)):
            source = random.Random(800)
            sequence = [source.randrange(field.order) for _ in range(255)]
            poly, length = shortest_register(field, sequence)
            self.assertTrue(is_register(field, poly, length, sequence))
            self.assertTrue(126 <= length <= 130)
            # A shorter one would be a solution of these equations, which have none.
            rows = [[sequence[i - j] for j in range(1, length)] for i in range(length - 1, 255)]
            target = [field.negative(sequence[i]) for i in range(length - 1, 255)]
            self.assertIsNone(solve(field, rows, length - 1, target))
