"""Points 31 to 33: families of codes."""

import itertools
import unittest

from nearestword.errors import InvalidCode
from nearestword.families import (
    hamming_code, parity_code, reed_muller_code, repetition_code, simplex_code, whole_code, zero_code,
)
from nearestword.fields import Field, standard_field
from nearestword.linear import LinearCode, code_from_checks
from tests.support import SMALL_FIELDS, combinations_of, every_word, slow_plus, weight, words_with_checks


def columns_of(field, redundancy):
    return [
        column for column in every_word(field, redundancy)
        if next((item for item in column if item != 0), None) == 1
    ]


class SimpleFamiliesTest(unittest.TestCase):
    def test_point_31_words(self):
        for field in SMALL_FIELDS:
            for length in range(1, 4):
                everything = every_word(field, length)
                self.assertEqual(repetition_code(field, length).words(), [w for w in everything if len(set(w)) == 1])
                self.assertEqual(zero_code(field, length).words(), everything[:1])
                self.assertEqual(whole_code(field, length).words(), everything)
                sums = []
                for word in everything:
                    total = 0
                    for item in word:
                        total = slow_plus(field, total, item)
                    sums.append(total)
                even = [word for word, total in zip(everything, sums) if total == 0]
                self.assertEqual(parity_code(field, length).words(), even)

    def test_point_31_length_1(self):
        field = Field(3)
        self.assertEqual(parity_code(field, 1).words(), [[0]])
        self.assertEqual(repetition_code(field, 1).words(), [[0], [1], [2]])

    def test_point_31_greatest_length(self):
        field = standard_field(256)
        dimensions = [make(field, 255).dimension for make in (repetition_code, parity_code, zero_code, whole_code)]
        self.assertEqual(dimensions, [1, 254, 0, 255])

    def test_point_31_wrong_lengths(self):
        for make in (repetition_code, parity_code, zero_code, whole_code):
            for length in (0, -1, 256, 2000, -2000):
                with self.assertRaises(InvalidCode):
                    make(Field(2), length)

    def test_the_field_object(self):
        field = Field(5, (3, 1))
        for make in (repetition_code, parity_code, zero_code, whole_code):
            self.assertIs(make(field, 3).field, field)
        for make in (hamming_code, simplex_code):
            self.assertIs(make(field, 2).field, field)


class HammingTest(unittest.TestCase):
    def test_point_32_columns(self):
        for field in SMALL_FIELDS:
            for redundancy in (1, 2, 3):
                columns = columns_of(field, redundancy)
                length = sum(field.order ** place for place in range(redundancy))
                self.assertEqual(len(columns), length)
                rows = [[column[place] for column in columns] for place in range(redundancy)]
                simplex = simplex_code(field, redundancy)
                hamming = hamming_code(field, redundancy)
                self.assertTrue(simplex.same_as(LinearCode(field, length, rows)))
                self.assertTrue(hamming.same_as(code_from_checks(field, length, rows)))
                self.assertEqual((simplex.dimension, hamming.dimension), (redundancy, length - redundancy))

    def test_point_32_words(self):
        field = Field(3)
        simplex = simplex_code(field, 2)
        self.assertEqual(simplex.rows, [[1, 0, 1, 2], [0, 1, 1, 1]])
        self.assertEqual(simplex.words(), combinations_of(field, [[0, 1, 1, 1], [1, 0, 1, 2]], 4))
        self.assertEqual(hamming_code(field, 2).words(), words_with_checks(field, [[0, 1, 1, 1], [1, 0, 1, 2]], 4))

    def test_point_32_redundancy_1(self):
        for field in SMALL_FIELDS:
            self.assertEqual(simplex_code(field, 1).rows, [[1]])
            self.assertEqual(hamming_code(field, 1).words(), [[0]])
            self.assertEqual(hamming_code(field, 1).length, 1)

    def test_point_32_greatest_redundancies(self):
        for order, redundancy, length in ((2, 8, 255), (3, 5, 121), (4, 4, 85), (5, 4, 156), (13, 3, 183), (256, 1, 1)):
            field = standard_field(order)
            self.assertEqual(simplex_code(field, redundancy).length, length)
            hamming = hamming_code(field, redundancy)
            self.assertEqual((hamming.length, hamming.dimension), (length, length - redundancy))
            for make in (hamming_code, simplex_code):
                with self.assertRaises(InvalidCode):
                    make(field, redundancy + 1)
        self.assertEqual(simplex_code(standard_field(243), 2).length, 244)

    def test_point_32_wrong_redundancies(self):
        for make in (hamming_code, simplex_code):
            for redundancy in (0, -1, -2000, 9, 2000):
                with self.assertRaises(InvalidCode):
                    make(Field(2), redundancy)


class ReedMullerTest(unittest.TestCase):
    def test_point_33_words_of_sets(self):
        for size in range(5):
            for order in range(-1, size + 1):
                rows = []
                for many in range(order + 1):
                    for chosen in itertools.combinations(range(size), many):
                        rows.append([
                            1 if all(place >> digit & 1 for digit in chosen) else 0 for place in range(2 ** size)
                        ])
                code = reed_muller_code(order, size)
                self.assertEqual((code.field.order, code.length), (2, 2 ** size))
                self.assertTrue(code.field.same_as(standard_field(2)))
                self.assertTrue(code.same_as(LinearCode(Field(2), 2 ** size, rows)))
                self.assertEqual(code.dimension, len(rows))

    def test_point_33_edges(self):
        self.assertEqual(reed_muller_code(-1, 0).words(), [[0]])
        self.assertEqual(reed_muller_code(0, 0).words(), [[0], [1]])
        self.assertEqual(reed_muller_code(-1, 7).dimension, 0)
        self.assertEqual(reed_muller_code(0, 3).words(), [[0] * 8, [1] * 8])
        self.assertEqual(reed_muller_code(7, 7).dimension, 128)
        self.assertEqual(reed_muller_code(3, 7).dimension, 64)
        self.assertEqual(min(weight(word) for word in reed_muller_code(1, 5).words()[1:]), 16)

    def test_point_33_wrong_orders_and_sizes(self):
        for order, size in ((0, -1), (0, 8), (-1, -1), (-1, 8), (-2, 3), (4, 3), (1, 0), (2000, 7), (0, 2000), (-2000, 0)):
            with self.assertRaises(InvalidCode):
                reed_muller_code(order, size)
