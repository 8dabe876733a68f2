"""Points 47 to 53: enumerators."""

import itertools
import unittest
from fractions import Fraction
from math import comb

from nearestword.changes import dual
from nearestword.enumerators import (
    average_weight, binomial_moment, dual_enumerator, enumerator, enumerator_by_dual, krawtchouk, outer_distance,
    separable_enumerator, vanishing_dimension,
)
from nearestword.errors import InvalidCode, TooLarge
from nearestword.families import (
    hamming_code, parity_code, reed_muller_code, repetition_code, simplex_code, whole_code, zero_code,
)
from nearestword.fields import Field, standard_field
from nearestword.linear import LinearCode
from nearestword.polynomials import poly_evaluate
from tests.support import SMALL_FIELDS, random_rows, weight


def some_codes(field):
    found = [zero_code(field, 4), repetition_code(field, 4), parity_code(field, 3), whole_code(field, 2)]
    for seed, (many, length) in enumerate(((1, 3), (2, 4), (2, 5), (3, 5))):
        rows = random_rows(47 + seed, field, many, length)
        found.append(LinearCode(field, length, rows))
        found.append(LinearCode(field, length + 1, [[0] + row for row in rows]))
    return [code for code in found if code.size <= 4096 and dual(code).size <= 4096]


def slow_krawtchouk(order, length, k, x):
    return sum((-1) ** j * (order - 1) ** (k - j) * comb(x, j) * comb(length - x, k - j) for j in range(k + 1))


def slow_dual_counts(order, counts):
    length, total = len(counts) - 1, sum(counts)
    return [
        Fraction(sum(count * slow_krawtchouk(order, length, k, x) for x, count in enumerate(counts)), total)
        for k in range(length + 1)
    ]


def is_usable(order, counts):
    if not 2 <= order <= 256 or not 2 <= len(counts) <= 256 or min(counts) < 0 or counts[0] != 1:
        return False
    if sum(counts) not in [order ** e for e in range(len(counts))]:
        return False
    return all(item >= 0 and item.denominator == 1 for item in slow_dual_counts(order, counts))


class EnumeratorTest(unittest.TestCase):
    def test_point_47_numbers_of_words(self):
        for field in SMALL_FIELDS:
            for code in some_codes(field):
                weights = [weight(word) for word in code.words()]
                self.assertEqual(enumerator(code), [weights.count(at) for at in range(code.length + 1)])

    def test_point_47_known_codes(self):
        self.assertEqual(enumerator(hamming_code(Field(2), 3)), [1, 0, 0, 7, 7, 0, 0, 1])
        self.assertEqual(enumerator(zero_code(Field(3), 255)), [1] + [0] * 255)
        self.assertEqual(enumerator(repetition_code(standard_field(256), 255)), [1] + [0] * 254 + [255])

    def test_point_47_limit(self):
        self.assertEqual(enumerator(whole_code(Field(2), 12)), [comb(12, at) for at in range(13)])
        for code in (whole_code(Field(2), 13), whole_code(standard_field(17), 3), whole_code(standard_field(256), 2)):
            with self.assertRaises(TooLarge):
                enumerator(code)


class KrawtchoukTest(unittest.TestCase):
    def test_point_48_numbers(self):
        for order, length in itertools.product((2, 3, 4, 256), range(7)):
            for k, x in itertools.product(range(length + 1), repeat=2):
                self.assertEqual(krawtchouk(order, length, k, x), slow_krawtchouk(order, length, k, x))
        self.assertEqual(krawtchouk(2, 0, 0, 0), 1)
        for k, x in ((0, 255), (255, 0), (255, 255), (100, 77)):
            self.assertEqual(krawtchouk(256, 255, k, x), slow_krawtchouk(256, 255, k, x))

    def test_beyond_the_limits_nothing_is_raised(self):
        for k, x in ((5, 3), (3, 5), (5, 5)):
            self.assertIsInstance(krawtchouk(2, 4, k, x), int)


class DualCountsTest(unittest.TestCase):
    def test_point_49_dual_codes(self):
        for field in SMALL_FIELDS:
            for code in some_codes(field):
                counts = enumerator(code)
                expected = enumerator(dual(code))
                self.assertEqual(dual_enumerator(field.order, counts), expected)
                self.assertEqual(dual_enumerator(field.order, expected), counts)
                self.assertEqual(enumerator_by_dual(code), counts)

    def test_point_49_all_small_counts(self):
        found = 0
        for order, size in ((2, 2), (2, 3), (2, 4), (3, 3), (4, 3), (6, 2)):
            for counts in itertools.product(range(-1, 6), repeat=size):
                counts = list(counts)
                if is_usable(order, counts):
                    found += 1
                    answer = dual_enumerator(order, counts)
                    self.assertEqual(answer, slow_dual_counts(order, counts))
                    self.assertTrue(all(isinstance(item, int) for item in answer))
                    self.assertEqual(dual_enumerator(order, answer), counts)
                else:
                    with self.assertRaises(InvalidCode):
                        dual_enumerator(order, counts)
        self.assertGreater(found, 10)

    def test_point_49_each_condition_by_itself(self):
        # Usable, and a neighbour of each of the others.
        self.assertEqual(dual_enumerator(2, [1, 0, 1]), [1, 0, 1])
        self.assertEqual(dual_enumerator(256, [1, 255]), [1, 0])
        self.assertEqual(dual_enumerator(6, [1, 0, 5]), [1, 0, 5])
        for order, counts in (
            (1, [1, 0]), (0, [1, 0]), (-2, [1, 0]), (257, [1, 256]),
            (2, []), (2, [1]), (2, [1] + [0] * 256),
            (2, [1, 2, -1]), (2, [1, -1, 2]),
            (2, [0, 0, 1]), (2, [2, 0, 0]), (2, [0, 2, 0]),
            (2, [1, 1, 1]), (3, [1, 1, 0]), (2, [1, 3]), (2, [1, 2, 5]),
        ):
            with self.assertRaises(InvalidCode):
                dual_enumerator(order, counts)

    def test_point_49_items_of_the_answer(self):
        # Only a negative item, only a fraction.
        cases = {"negative": [], "fraction": []}
        for order, size in ((2, 4), (2, 5), (3, 4)):
            for tail in itertools.product(range(8), repeat=size - 1):
                counts = [1] + list(tail)
                if sum(counts) in [order ** e for e in range(size)]:
                    answer = slow_dual_counts(order, counts)
                    whole = all(item.denominator == 1 for item in answer)
                    positive = all(item >= 0 for item in answer)
                    if whole and not positive:
                        cases["negative"].append((order, counts))
                    if positive and not whole:
                        cases["fraction"].append((order, counts))
        for found in cases.values():
            self.assertTrue(found)
            for order, counts in found:
                with self.assertRaises(InvalidCode):
                    dual_enumerator(order, counts)

    def test_point_49_greatest_lengths(self):
        counts = [1] + [0] * 254 + [1]
        even = [comb(255, at) if at % 2 == 0 else 0 for at in range(256)]
        self.assertEqual(dual_enumerator(2, counts), even)
        self.assertEqual(dual_enumerator(2, even), counts)
        self.assertEqual(dual_enumerator(256, [1] + [0] * 255), [comb(255, at) * 255 ** at for at in range(256)])
        self.assertEqual(dual_enumerator(256, [comb(255, at) * 255 ** at for at in range(256)]), [1] + [0] * 255)

    def test_point_49_by_the_dual_of_a_large_code(self):
        counts = enumerator_by_dual(hamming_code(Field(2), 8))
        self.assertEqual((counts[:4], sum(counts)), ([1, 0, 0, 255 * 254 // 6], 2 ** 247))
        self.assertEqual(enumerator_by_dual(whole_code(Field(3), 2)), [1, 4, 4])
        self.assertEqual(enumerator_by_dual(zero_code(Field(2), 12)), [1] + [0] * 12)
        with self.assertRaises(TooLarge):
            enumerator_by_dual(zero_code(Field(2), 13))

    def test_point_53_outer_distance(self):
        for field in SMALL_FIELDS:
            for code in some_codes(field):
                weights = {weight(word) for word in dual(code).words()} - {0}
                self.assertEqual(outer_distance(code), len(weights))
        self.assertEqual(outer_distance(whole_code(Field(2), 255)), 0)
        self.assertEqual(outer_distance(hamming_code(Field(2), 8)), 1)
        self.assertEqual(outer_distance(zero_code(Field(2), 12)), 12)
        with self.assertRaises(TooLarge):
            outer_distance(zero_code(Field(2), 13))
        with self.assertRaises(TooLarge):
            outer_distance(reed_muller_code(2, 7))


class MomentsTest(unittest.TestCase):
    def test_point_50_vanishing_dimension(self):
        for field in SMALL_FIELDS[:4]:
            for code in some_codes(field):
                for many in range(code.length + 1):
                    for positions in itertools.combinations(range(code.length), many):
                        zeros = [w for w in code.words() if all(w[at] == 0 for at in positions)]
                        dimension = vanishing_dimension(code, list(positions)[::-1])
                        self.assertEqual(field.order ** dimension, len(zeros))

    def test_point_50_positions(self):
        code = parity_code(Field(2), 255)
        self.assertEqual(vanishing_dimension(code, []), 254)
        self.assertEqual(vanishing_dimension(code, list(range(255))), 0)
        for positions in ([255], [-1], [3, 3], [0, 1, 0], [0, 1000]):
            with self.assertRaises(InvalidCode):
                vanishing_dimension(code, positions)

    def test_point_50_moments(self):
        for field in SMALL_FIELDS[:4]:
            for code in some_codes(field):
                counts, others = enumerator(code), enumerator(dual(code))
                length, order = code.length, field.order
                for k in range(length + 1):
                    pairs = sum(
                        order ** vanishing_dimension(code, list(chosen))
                        for chosen in itertools.combinations(range(length), k)
                    )
                    moment = binomial_moment(counts, k)
                    self.assertEqual(moment, pairs)
                    known = sum(comb(length - w, k - w) * others[w] for w in range(k + 1))
                    self.assertEqual(order ** k * moment, order ** code.dimension * known)

    def test_point_50_moment_edges(self):
        self.assertEqual(binomial_moment([7], 0), 7)
        self.assertEqual([binomial_moment([1, 2, 3], k) for k in range(3)], [6, 4, 1])
        self.assertEqual(binomial_moment([0] * 255 + [4], 0), 4)
        self.assertEqual(binomial_moment([2] + [0] * 255, 255), 2)

    def test_point_51_average_weight(self):
        for field in SMALL_FIELDS:
            for code in some_codes(field):
                used = sum(1 for at in range(code.length) if any(row[at] for row in code.rows))
                average = Fraction((field.order - 1) * used, field.order)
                self.assertEqual(average_weight(enumerator(code)), (average.numerator, average.denominator))

    def test_point_51_edges(self):
        self.assertEqual(average_weight([5]), (0, 1))
        self.assertEqual(average_weight([6, 0, 0]), (0, 1))
        self.assertEqual(average_weight([0, 0, 4]), (2, 1))
        self.assertEqual(average_weight([2, 4]), (2, 3))
        self.assertEqual(average_weight([1] * 256), (255, 2))

    def test_points_50_and_51_wrong_counts(self):
        for counts in ([], [0], [0, 0, 0], [1, -1], [-1, 2], [0, -1], [1] * 257, [0] * 256):
            with self.assertRaises(InvalidCode):
                average_weight(counts)
            with self.assertRaises(InvalidCode):
                binomial_moment(counts, 0)
        for k in (-1, 3, 256):
            with self.assertRaises(InvalidCode):
                binomial_moment([1, 2, 3], k)


class SeparableTest(unittest.TestCase):
    def test_point_52_formula(self):
        for order, length in itertools.product((2, 3, 6, 256), range(1, 7)):
            for dimension in range(length + 1):
                d = length - dimension + 1
                expected = [1] + [0] * length
                for w in range(d, length + 1):
                    expected[w] = comb(length, w) * sum(
                        (-1) ** j * comb(w, j) * (order ** (w - d + 1 - j) - 1) for j in range(w - d + 1)
                    )
                self.assertEqual(separable_enumerator(order, length, dimension), expected)

    def test_point_52_codes(self):
        for field in (standard_field(7), standard_field(8), Field(3, (2, 1, 1))):
            length = 6
            for dimension in (1, 2, 3):
                rows = [
                    [poly_evaluate(field, [0] * at + [1], point) for point in range(length)] for at in range(dimension)
                ]
                code = LinearCode(field, length, rows)
                self.assertEqual(enumerator(code), separable_enumerator(field.order, length, dimension))
                opposite = separable_enumerator(field.order, length, length - dimension)
                self.assertEqual(dual_enumerator(field.order, enumerator(code)), opposite)
        for code in (zero_code(Field(2), 5), whole_code(Field(2), 5), repetition_code(Field(2), 5), parity_code(Field(2), 5)):
            self.assertEqual(separable_enumerator(2, 5, code.dimension), enumerator(code))
        self.assertEqual(separable_enumerator(3, 4, 2), enumerator(simplex_code(Field(3), 2)))

    def test_point_52_edges(self):
        self.assertEqual(separable_enumerator(2, 1, 0), [1, 0])
        self.assertEqual(separable_enumerator(2, 1, 1), [1, 1])
        self.assertEqual(separable_enumerator(2, 4, 2), [1, 0, 0, 4, -1])
        self.assertEqual(separable_enumerator(256, 255, 0), [1] + [0] * 255)
        self.assertEqual(separable_enumerator(256, 255, 255), [comb(255, at) * 255 ** at for at in range(256)])

    def test_point_52_wrong_parameters(self):
        for order, length, dimension in (
            (1, 4, 2), (0, 4, 2), (-5, 4, 2), (257, 4, 2), (5, 0, 0), (5, -1, 0), (5, 256, 2), (5, 4, -1), (5, 4, 5),
        ):
            with self.assertRaises(InvalidCode):
                separable_enumerator(order, length, dimension)
