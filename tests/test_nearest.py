"""Points 64 to 68: nearest words."""

import itertools
import random
import unittest

from nearestword.distances import minimum_distance
from nearestword.errors import Ambiguous, InvalidWord, TooLarge, TooManyErrors
from nearestword.families import hamming_code, parity_code, repetition_code, whole_code, zero_code
from nearestword.fields import Field, standard_field
from nearestword.linear import LinearCode
from nearestword.nearest import nearest, nearest_word, within, word_within
from tests.support import SMALL_FIELDS, random_rows


def some_codes():
    for field in SMALL_FIELDS:
        yield from (zero_code(field, 3), repetition_code(field, 4), parity_code(field, 3), whole_code(field, 2))
        for many, length in ((1, 3), (2, 4), (2, 5)):
            yield LinearCode(field, length, random_rows(640 + many, field, many, length))


def some_received(code, seed, many=25):
    source = random.Random(seed)
    items = [None] + list(range(code.field.order))
    for share in (0, 1, 2):
        for _ in range(many):
            received = [source.choice(items[1:]) for _ in range(code.length)]
            for at in source.sample(range(code.length), min(share, code.length)):
                received[at] = None
            yield received
    yield [None] * code.length
    yield code.words()[-1]


def slow_pairs(code, received):
    pairs = []
    for word in code.words():
        pairs.append((sum(1 for x, y in zip(word, received) if y is not None and x != y), word))
    return sorted(pairs)


def bad_received(code):
    """Lists that are no received words of the code."""
    n, q = code.length, code.field.order
    yield from ([], [0] * (n - 1), [0] * (n + 1), [None] * (n + 1))
    for wrong in (-1, q, q + 1, 10 ** 20):
        yield [wrong] + [0] * (n - 1)
        yield [None] * (n - 1) + [wrong]


class NearestTest(unittest.TestCase):
    def test_points_65_and_66_nearest(self):
        for code in some_codes():
            for received in some_received(code, 65):
                pairs = slow_pairs(code, received)
                least = pairs[0][0]
                expected = (least, [word for distance, word in pairs if distance == least])
                self.assertEqual(nearest(code, received), expected)
                self.assertIsInstance(nearest(code, received), tuple)

    def test_points_65_and_66_within(self):
        for code in some_codes():
            for received in some_received(code, 66, 8):
                pairs = slow_pairs(code, received)
                for radius in (0, 1, 2, code.length - 1, code.length, code.length + 1, 10 ** 20):
                    expected = [pair for pair in pairs if pair[0] <= radius]
                    self.assertEqual(within(code, received, radius), expected)

    def test_points_66_and_67_nearest_word(self):
        for code in some_codes():
            for received in some_received(code, 67, 10):
                _, words = nearest(code, received)
                if len(words) == 1:
                    self.assertEqual(nearest_word(code, received), words[0])
                else:
                    with self.assertRaises(Ambiguous) as caught:
                        nearest_word(code, received)
                    self.assertEqual(caught.exception.found, words)
                    self.assertEqual(words, sorted(words))
                    self.assertEqual(len({tuple(word) for word in words}), len(words))

    def test_points_66_and_68_word_within(self):
        for code in some_codes():
            for received in some_received(code, 68, 5):
                for radius in (0, 1, code.length, code.length + 1, 10 ** 20):
                    words = sorted(word for distance, word in slow_pairs(code, received) if distance <= radius)
                    if len(words) == 1:
                        self.assertEqual(word_within(code, received, radius), words[0])
                    elif not words:
                        with self.assertRaises(TooManyErrors):
                            word_within(code, received, radius)
                    else:
                        with self.assertRaises(Ambiguous) as caught:
                            word_within(code, received, radius)
                        self.assertEqual(caught.exception.found, words)

    def test_point_66_order_is_of_the_words_not_of_the_distances(self):
        code = LinearCode(Field(2), 3, [[1, 1, 0], [0, 0, 1]])
        with self.assertRaises(Ambiguous) as caught:
            word_within(code, [1, 1, 1], 2)
        self.assertEqual(caught.exception.found, [[0, 0, 1], [1, 1, 0], [1, 1, 1]])
        self.assertEqual(within(code, [1, 1, 1], 2), [(0, [1, 1, 1]), (1, [1, 1, 0]), (2, [0, 0, 1])])

    def test_point_67_few_errors_and_erased_positions(self):
        for code in (hamming_code(Field(3), 2), repetition_code(Field(5), 5), repetition_code(Field(2), 6)):
            n, distance = code.length, minimum_distance(code)
            word = code.words()[-1]
            for s, e in ((s, e) for s in range(n + 1) for e in range(n + 1 - s)):
                if 2 * e + s < distance:
                    for erased in itertools.combinations(range(n), s):
                        left = [at for at in range(n) if at not in erased]
                        for wrong in itertools.combinations(left, e):
                            received = [None if at in erased else item for at, item in enumerate(word)]
                            for at in wrong:
                                received[at] = (received[at] + 1) % code.field.order
                            self.assertEqual(nearest(code, received), (e, [word]))
                            self.assertEqual(nearest_word(code, received), word)

    def test_point_67_dimension_0(self):
        code = zero_code(Field(5), 3)
        for received in ([0, 0, 0], [1, 2, 3], [None, 2, 3], [None] * 3):
            distance = sum(1 for item in received if item)
            self.assertEqual(nearest(code, received), (distance, [[0, 0, 0]]))
            self.assertEqual(nearest_word(code, received), [0, 0, 0])
            self.assertEqual(word_within(code, received, 3), [0, 0, 0])
        with self.assertRaises(TooManyErrors):
            word_within(code, [1, 2, 3], 2)
        self.assertEqual(nearest(zero_code(standard_field(256), 255), [255] * 255), (255, [[0] * 255]))

    def test_point_65_all_erased(self):
        for code in some_codes():
            received = [None] * code.length
            self.assertEqual(nearest(code, received), (0, code.words()))
            self.assertEqual(within(code, received, 0), [(0, word) for word in code.words()])

    def test_point_64_wrong_received_words(self):
        large = whole_code(Field(2), 13)
        for code in (repetition_code(Field(3), 4), zero_code(Field(2), 1), large):
            for received in bad_received(code):
                for call in (nearest, nearest_word):
                    with self.assertRaises(InvalidWord):
                        call(code, received)
                for call in (within, word_within):
                    for radius in (0, 4):
                        with self.assertRaises(InvalidWord):
                            call(code, received, radius)

    def test_point_65_limit(self):
        for order, dimension in ((2, 12), (16, 3), (64, 2)):
            code = whole_code(standard_field(order), dimension)
            self.assertEqual(nearest(code, [1] * dimension), (0, [[1] * dimension]))
            self.assertEqual(len(within(code, [1] * dimension, dimension)), 4096)
            self.assertEqual(word_within(code, [1] * dimension, 0), [1] * dimension)
            large = whole_code(standard_field(order), dimension + 1)
            received = [1] * (dimension + 1)
            for call, arguments in ((nearest, ()), (nearest_word, ()), (within, (0,)), (word_within, (0,))):
                with self.assertRaises(TooLarge):
                    call(large, received, *arguments)
