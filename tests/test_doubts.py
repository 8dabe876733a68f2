"""Point 108: costs and doubts."""

import itertools
import random
import unittest

from nearestword.distances import minimum_distance
from nearestword.doubts import cost_beside, doubt, kept, thresholds_of
from nearestword.errors import InvalidWord, TooLarge
from nearestword.families import hamming_code, parity_code, repetition_code, whole_code, zero_code
from nearestword.fields import Field, standard_field
from nearestword.linear import LinearCode
from tests.support import SMALL_FIELDS, random_rows, slow_cost


def slow_doubt(words, distance, received):
    cost, word = min((slow_cost(word, received), word) for word in words)
    return (word, cost) if cost < distance else (None, distance)


class DoubtsTest(unittest.TestCase):
    def test_point_108_cost(self):
        self.assertEqual(cost_beside([], []), 0)
        self.assertEqual(cost_beside([1, 0, 2, 2], [1, None, 0, 1]), 5)
        self.assertEqual(cost_beside([0] * 255, [None] * 255), 255)
        self.assertEqual(cost_beside([0] * 255, [1] * 255), 510)
        self.assertEqual(cost_beside([3, 0], [3, 0]), 0)
        source = random.Random(108)
        for _ in range(100):
            length = source.randrange(9)
            word = [source.randrange(3) for _ in range(length)]
            received = [source.choice((0, 1, 2, None)) for _ in range(length)]
            self.assertEqual(cost_beside(word, received), slow_cost(word, received))

    def test_point_108_unlike_lengths(self):
        for word, received in (([], [1]), ([1], []), ([1, 0], [1, 0, None]), ([1, 0, 2], [1, 0]), ([0], [None, None])):
            with self.assertRaises(InvalidWord):
                cost_beside(word, received)

    def test_point_108_every_received_word(self):
        for field, length, rows in (
            (Field(2), 5, [[1, 1, 1, 0, 0], [0, 0, 1, 1, 1]]), (Field(3), 4, [[1, 1, 1, 0], [0, 1, 2, 1]]),
        ):
            code = LinearCode(field, length, rows)
            words = code.words()
            for received in map(list, itertools.product([None] + list(range(field.order)), repeat=length)):
                for distance in (1, 2, 3, 4, 11):
                    answer = doubt(code, distance, received)
                    self.assertIsInstance(answer, tuple)
                    self.assertEqual(answer, slow_doubt(words, distance, received))

    def test_point_108_many_codes(self):
        source = random.Random(1080)
        for field in SMALL_FIELDS:
            for many in range(4):
                code = LinearCode(field, 6, random_rows(many, field, many, 6))
                words = code.words()
                for _ in range(10):
                    received = [source.choice([None] + field.all_elements()) for _ in range(6)]
                    least = min(slow_cost(word, received) for word in words)
                    # At the least cost it is not below the distance any more.
                    for distance in (1, max(1, least), least + 1, least + 2, 20):
                        self.assertEqual(doubt(code, distance, received), slow_doubt(words, distance, received))

    def test_point_108_at_the_distance_and_below_it(self):
        code = repetition_code(Field(2), 5)
        self.assertEqual(doubt(code, 5, [0, 0, 0, 1, 1]), ([0] * 5, 4))
        self.assertEqual(doubt(code, 4, [0, 0, 0, 1, 1]), (None, 4))
        self.assertEqual(doubt(code, 5, [0, 0, None, 1, 1]), (None, 5))
        self.assertEqual(doubt(code, 6, [0, 0, None, 1, 1]), ([0] * 5, 5))
        self.assertEqual(doubt(code, 5, [1, None, None, None, None]), ([1] * 5, 4))
        self.assertEqual(doubt(code, 1, [1] * 5), ([1] * 5, 0))
        self.assertEqual(doubt(code, 1, [1, 1, 1, 1, None]), (None, 1))

    def test_point_108_several_words_of_the_least_cost(self):
        self.assertEqual(doubt(parity_code(Field(2), 3), 9, [1, 1, 1]), ([0, 1, 1], 2))
        self.assertEqual(doubt(repetition_code(Field(3), 2), 5, [2, 1]), ([1, 1], 2))
        self.assertEqual(doubt(whole_code(Field(2), 3), 3, [1, None, None]), ([1, 0, 0], 2))

    def test_point_108_every_position_erased(self):
        for code in (repetition_code(Field(2), 4), zero_code(Field(3), 4), whole_code(Field(2), 4)):
            self.assertEqual(doubt(code, 4, [None] * 4), (None, 4))
            self.assertEqual(doubt(code, 5, [None] * 4), ([0] * 4, 4))

    def test_point_108_at_most_one_word_below_the_minimum_distance(self):
        code = hamming_code(Field(2), 3)
        least = minimum_distance(code)
        for received in map(list, itertools.product((0, 1, None), repeat=7)):
            below = [word for word in code.words() if slow_cost(word, received) < least]
            self.assertLessEqual(len(below), 1)
            self.assertEqual(doubt(code, least, received)[0], below[0] if below else None)

    def test_point_108_dimension_0(self):
        self.assertEqual(doubt(zero_code(Field(2), 2), 3, [1, None]), (None, 3))
        self.assertEqual(doubt(zero_code(Field(2), 2), 4, [1, None]), ([0, 0], 3))

    def test_point_108_wrong_received_words(self):
        small = repetition_code(Field(3), 3)
        large = whole_code(Field(2), 13)
        for code, received in (
            (small, []), (small, [0, 0]), (small, [0] * 4), (small, [3, 0, 0]), (small, [0, -1, None]),
            (large, [0] * 12), (large, [2] + [0] * 12), (large, [None] * 14), (large, [0] * 12 + [-1]),
        ):
            with self.assertRaises(InvalidWord):
                doubt(code, 2, received)

    def test_point_108_too_large(self):
        with self.assertRaises(TooLarge):
            doubt(whole_code(Field(2), 13), 2, [0] * 13)
        self.assertEqual(doubt(whole_code(Field(2), 12), 2, [1] * 12), ([1] * 12, 0))
        self.assertEqual(doubt(repetition_code(standard_field(256), 3), 3, [9, 9, 8]), ([9] * 3, 2))

    def test_point_108_kept(self):
        doubts = [3, 0, 2, 5, 2, -1]
        self.assertEqual([kept(doubts, threshold) for threshold in (-1, 0, 1, 2, 3, 6)],
                         [[], [5], [1, 5], [1, 5], [1, 2, 4, 5], [0, 1, 2, 3, 4, 5]])
        self.assertEqual((kept([], 3), kept([2], 2), kept([2], 3)), ([], [], [0]))

    def test_thresholds_that_keep_something(self):
        self.assertEqual([thresholds_of(doubts, 3) for doubts in ([], [3, 3], [0, 3], [2, 0, 2, 1], [2, 3])],
                         [[], [], [1], [1, 2, 3], [3]])
        source = random.Random(1081)
        for distance in range(1, 6):
            doubts = [source.randrange(distance + 1) for _ in range(6)]
            every = [kept(doubts, threshold) for threshold in range(1, distance + 1)]
            expected = [some for at, some in enumerate(every) if some and some not in every[:at]]
            self.assertEqual([kept(doubts, threshold) for threshold in thresholds_of(doubts, distance)], expected)
