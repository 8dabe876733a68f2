"""Points 22 to 25: words."""

import itertools
import unittest

from nearestword.errors import InvalidWord
from nearestword.fields import Field, standard_field
from nearestword.words import (
    add_words, all_words, distance_between, erased_positions, errors_beside, is_received, is_word, scale_word,
    subtract_words, support_of, weight_of, zero_word,
)
from tests.support import SMALL_FIELDS, every_word, random_rows, slow_negative, slow_plus, slow_times


class CountingTest(unittest.TestCase):
    def test_point_24_weight_and_support(self):
        for word, support in (([], []), ([0], []), ([3], [0]), ([0, 2, 0, 1, 255], [1, 3, 4]), ([0] * 255, [])):
            self.assertEqual(weight_of(word), len(support))
            self.assertEqual(support_of(word), support)
        self.assertEqual(weight_of([1] * 255), 255)
        self.assertEqual(support_of([1] * 255), list(range(255)))

    def test_point_24_distance(self):
        self.assertEqual(distance_between([], []), 0)
        self.assertEqual(distance_between([1, 2, 0], [1, 0, 2]), 2)
        self.assertEqual(distance_between([1] * 255, [2] * 255), 255)
        for first, second in (([], [0]), ([1, 2], [1]), ([0] * 254, [0] * 255)):
            with self.assertRaises(InvalidWord):
                distance_between(first, second)

    def test_point_23_erased_positions(self):
        self.assertEqual(erased_positions([]), [])
        self.assertEqual(erased_positions([0, 1]), [])
        self.assertEqual(erased_positions([None, 0, None, 5, None]), [0, 2, 4])
        self.assertEqual(erased_positions([None] * 255), list(range(255)))

    def test_point_24_errors(self):
        self.assertEqual(errors_beside([], []), 0)
        self.assertEqual(errors_beside([0, 0], [None, None]), 0)
        self.assertEqual(errors_beside([1, 0, 2, 0], [1, 1, None, 3]), 2)
        self.assertEqual(errors_beside([1] * 255, [0] * 254 + [None]), 254)
        for word, received in (([], [None]), ([0], []), ([0, 0], [0, 0, 0])):
            with self.assertRaises(InvalidWord):
                errors_beside(word, received)


class WordsTest(unittest.TestCase):
    def test_point_22_words(self):
        for field in SMALL_FIELDS + (standard_field(256),):
            top = field.order - 1
            self.assertIs(is_word(field, 0, []), True)
            self.assertIs(is_word(field, 3, [0, 1, top]), True)
            self.assertIs(is_word(field, 255, [top] * 255), True)
            for length, word in (
                (1, []), (0, [0]), (2, [0]), (2, [0, 0, 0]), (2, [0, None]), (2, [-1, 0]), (2, [0, top + 1]),
                (1, [1000]), (255, [0] * 254), (255, [0] * 254 + [None]),
            ):
                self.assertIs(is_word(field, length, word), False)

    def test_point_23_received_words(self):
        for field in SMALL_FIELDS:
            top = field.order - 1
            self.assertIs(is_received(field, 0, []), True)
            self.assertIs(is_received(field, 3, [None, 0, top]), True)
            self.assertIs(is_received(field, 255, [None] * 255), True)
            for length, received in (
                (1, []), (0, [None]), (2, [None]), (2, [None, -1]), (2, [None, top + 1]), (255, [None] * 254),
            ):
                self.assertIs(is_received(field, length, received), False)

    def test_zero_word(self):
        self.assertEqual(zero_word(0), [])
        self.assertEqual(zero_word(3), [0, 0, 0])
        self.assertEqual(zero_word(255), [0] * 255)
        zero_word(3).append(1)
        self.assertEqual(zero_word(3), [0, 0, 0])

    def test_point_25_sums_differences_multiples(self):
        for field in SMALL_FIELDS + (standard_field(256),):
            for first, second in itertools.product(random_rows(25, field, 4, 6), repeat=2):
                pairs = list(zip(first, second))
                self.assertEqual(add_words(field, first, second), [slow_plus(field, x, y) for x, y in pairs])
                self.assertEqual(
                    subtract_words(field, first, second),
                    [slow_plus(field, x, slow_negative(field, y)) for x, y in pairs],
                )
                for factor in (0, 1, field.order - 1):
                    self.assertEqual(scale_word(field, factor, first), [slow_times(field, factor, x) for x in first])

    def test_point_25_lengths(self):
        field = Field(3)
        self.assertEqual(add_words(field, [], []), [])
        self.assertEqual(subtract_words(field, [], []), [])
        self.assertEqual(scale_word(field, 2, []), [])
        self.assertEqual(add_words(field, [2] * 255, [2] * 255), [1] * 255)
        for compute in (add_words, subtract_words):
            for first, second in (([], [0]), ([0], []), ([0, 1], [0]), ([0] * 255, [0] * 254)):
                with self.assertRaises(InvalidWord):
                    compute(field, first, second)

    def test_point_25_wrong_items(self):
        field = Field(3)
        for item in (None, -1, 3, 256):
            for compute in (add_words, subtract_words):
                for first, second in (([item, 0], [0, 0]), ([0, 0], [0, item]), ([item], [item])):
                    with self.assertRaises(InvalidWord):
                        compute(field, first, second)
            for factor, word in ((item, [1]), (1, [1, item]), (item, []), (0, [item])):
                with self.assertRaises(InvalidWord):
                    scale_word(field, factor, word)

    def test_point_22_all_words(self):
        for field in SMALL_FIELDS:
            for length in range(4):
                self.assertEqual([list(word) for word in all_words(field, length)], every_word(field, length))
        self.assertEqual([word for word in all_words(Field(2), 0)], [[]])

    def test_all_words_of_a_great_length(self):
        words = all_words(standard_field(256), 255)
        self.assertEqual(next(words), [0] * 255)
        self.assertEqual(next(words), [0] * 254 + [1])

    def test_all_words_may_be_changed(self):
        found = []
        for word in all_words(Field(2), 2):
            found.append(list(word))
            word[0] = 7
            word.append(9)
        self.assertEqual(found, [[0, 0], [0, 1], [1, 0], [1, 1]])
        kept = list(all_words(Field(2), 2))
        self.assertEqual(len({id(word) for word in kept}), 4)
