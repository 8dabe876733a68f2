"""Points 81 to 83 and 87: evaluation codes."""

import itertools
import random
import unittest

from nearestword.distances import minimum_distance
from nearestword.errors import InvalidCode, InvalidWord, NotInCode, TooManyErrors
from nearestword.evaluation import EvaluationCode
from nearestword.fields import Field, standard_field
from nearestword.polynomials import poly_from_roots, poly_roots
from tests.support import SMALL_FIELDS, every_word, only_word_within, slow_plus, slow_times


def slow_value(field, message, point):
    value, power = 0, 1
    for item in message:
        value = slow_plus(field, value, slow_times(field, item, power))
        power = slow_times(field, power, point)
    return value


def some_codes():
    for field in SMALL_FIELDS:
        every = list(range(field.order))
        random.Random(81).shuffle(every)
        for points in (every[:1], every[:2], every[:3], every[:5], every):
            for dimension in range(1, len(points) + 1):
                if field.order ** dimension <= 700:
                    yield EvaluationCode(field, points, dimension)


def slow_corrected(code, words, received):
    """The only word that is near enough, None if there is none."""
    return only_word_within(words, received, (code.length - received.count(None) - code.dimension) // 2)


def spoiled(field, word, erased, wrong):
    """The word with some positions erased and other items at some positions."""
    received = [None if at in erased else item for at, item in enumerate(word)]
    for at in wrong:
        received[at] = (word[at] + 1) % field.order
    return received


class EvaluationCodeTest(unittest.TestCase):
    def test_point_81_words_and_messages(self):
        for code in some_codes():
            field, points = code.field, code.points
            self.assertEqual(code.length, len(points))
            words = []
            for message in every_word(field, code.dimension):
                word = code.word_for(message)
                self.assertEqual(word, [slow_value(field, message, point) for point in points])
                self.assertTrue(code.contains(word))
                self.assertEqual(code.message_of(word), message)
                words.append(word)
            self.assertEqual(len({tuple(word) for word in words}), len(words))
            self.assertEqual(code.linear().words(), sorted(words))
            self.assertEqual((code.linear().field, code.linear().length), (field, code.length))
            self.assertEqual(minimum_distance(code.linear()), code.length - code.dimension + 1)
            if field.order ** code.length <= 800:
                inside = [word for word in every_word(field, code.length) if code.contains(word)]
                self.assertEqual(inside, sorted(words))
                for word in every_word(field, code.length):
                    if word not in inside:
                        with self.assertRaises(NotInCode):
                            code.message_of(word)

    def test_point_81_edges(self):
        field = Field(5)
        one = EvaluationCode(field, [3], 1)
        self.assertEqual((one.length, one.dimension, one.word_for([2]), one.message_of([4])), (1, 1, [2], [4]))
        code = EvaluationCode(field, [4, 0, 2], 3)
        self.assertEqual(code.points, [4, 0, 2])
        for message in ([0, 0, 0], [1, 0, 0], [0, 3, 0], [0, 0, 1]):
            self.assertEqual(code.message_of(code.word_for(message)), message)
            self.assertEqual(code.message_for(code.word_for(message)), message)
        self.assertEqual(code.word_for([1, 0, 0]), [1, 1, 1])

    def test_point_81_number_of_points(self):
        field = standard_field(256)
        longest = EvaluationCode(field, list(range(255, 0, -1)), 2)
        self.assertEqual((longest.length, longest.word_for([3, 0])), (255, [3] * 255))
        self.assertEqual(EvaluationCode(field, list(range(255)), 255).dimension, 255)
        with self.assertRaises(InvalidCode):
            EvaluationCode(field, list(range(256)), 2)
        whole = EvaluationCode(standard_field(243), list(range(243)), 1)
        self.assertEqual(whole.length, 243)

    def test_point_81_wrong_codes(self):
        field = Field(5)
        for points, dimension in (
            ([], 0), ([], 1), ([-1, 0], 1), ([0, 5], 1), ([0, 6], 1), ([1, 1], 1), ([0, 1, 2, 0], 2), ([0, 1, 2], 0),
            ([0, 1, 2], -1), ([0, 1, 2], 4), ([10 ** 20], 1), ([0, 1, 2], 10 ** 20),
        ):
            with self.assertRaises(InvalidCode):
                EvaluationCode(field, points, dimension)
        self.assertEqual(EvaluationCode(field, [0, 4], 1).dimension, 1)
        self.assertEqual(EvaluationCode(field, [0, 4], 2).dimension, 2)

    def test_point_82_mended(self):
        for code in some_codes():
            for s in range(code.length + 1):
                number = code.mended(s)
                self.assertEqual(number, (code.length - s - code.dimension) // 2)
                self.assertEqual(number < 0, code.length - s < code.dimension)
        code = EvaluationCode(Field(5), [0, 1, 2, 3], 2)
        self.assertEqual([code.mended(s) for s in range(5)], [1, 0, 0, -1, -1])
        self.assertEqual(EvaluationCode(Field(5), [0, 1, 2, 3], 4).mended(4), -2)

    def test_points_82_and_83_every_received_word(self):
        cases = [
            (Field(3), [2, 0, 1]), (Field(2), [0, 1]), (Field(2, (1, 1, 1)), [0, 1, 2, 3]), (Field(5), [0, 1, 2, 3]),
        ]
        for field, points in cases:
            items = [None] + list(range(field.order))
            for dimension in range(1, len(points) + 1):
                code = EvaluationCode(field, points, dimension)
                words = code.linear().words()
                for received in map(list, itertools.product(items, repeat=len(points))):
                    self.check_received(code, words, received)

    def check_received(self, code, words, received):
        expected = slow_corrected(code, words, received)
        if expected is None:
            for call in (code.corrected, code.message_for, code.error_locator):
                with self.assertRaises(TooManyErrors):
                    call(received)
            return
        self.assertEqual(code.corrected(received), expected)
        self.assertEqual(code.message_for(received), code.message_of(expected))
        wrong = [
            point for point, item, told in zip(code.points, expected, received) if told is not None and told != item
        ]
        locator = code.error_locator(received)
        self.assertEqual(locator, poly_from_roots(code.field, wrong))
        self.assertEqual((poly_roots(code.field, locator), len(locator) - 1), (sorted(wrong), len(wrong)))

    def test_points_82_and_83_random_received_words(self):
        source = random.Random(82)
        for code in some_codes():
            words = code.linear().words()
            for _ in range(15):
                received = [source.randrange(code.field.order) for _ in range(code.length)]
                for at in source.sample(range(code.length), source.randrange(code.length + 1)):
                    received[at] = None
                self.check_received(code, words, received)

    def test_point_82_as_many_errors_as_are_mended_and_one_more(self):
        source = random.Random(820)
        for order, length, k in ((16, 15, 5), (31, 20, 8), (243, 40, 11), (256, 255, 201)):
            field = standard_field(order)
            points = source.sample(range(order), length)
            code = EvaluationCode(field, points, k)
            message = [source.randrange(order) for _ in range(k)]
            word = code.word_for(message)
            for s in (0, 1, (length - k) // 2, length - k - 1, length - k):
                places = source.sample(range(length), length)
                most = code.mended(s)
                for errors in sorted({0, most}):
                    wrong = places[s:s + errors]
                    received = spoiled(field, word, places[:s], wrong)
                    self.assertEqual(code.corrected(received), word)
                    self.assertEqual(code.message_for(received), message)
                    self.assertEqual(poly_roots(field, code.error_locator(received)), sorted(points[at] for at in wrong))
                received = spoiled(field, word, places[:s], places[s:s + most + 1])
                try:
                    other = code.corrected(received)
                except TooManyErrors:
                    continue
                # One more error may only lead to another word that is near enough.
                self.assertNotEqual(other, word)
                self.assertTrue(code.contains(other))
                differing = sum(1 for x, y in zip(other, received) if y is not None and x != y)
                self.assertLessEqual(differing, most)

    def test_point_82_too_few_positions(self):
        code = EvaluationCode(Field(5), [0, 1, 2, 3], 2)
        word = code.word_for([1, 2])
        self.assertEqual(code.corrected([None, None] + word[2:]), word)
        for received in ([None] * 4, [None] * 3 + word[3:], [word[0]] + [None] * 3):
            for call in (code.corrected, code.message_for, code.error_locator):
                with self.assertRaises(TooManyErrors):
                    call(received)
        # Two errors are more than the one that is mended.
        with self.assertRaises(TooManyErrors):
            EvaluationCode(Field(5), [0, 1, 2, 3], 1).corrected([1, 1, 2, 2])

    def test_point_83_without_an_error(self):
        for code in some_codes():
            word = code.word_for([1] * code.dimension)
            self.assertEqual(code.error_locator(word), [1])
            self.assertEqual(code.corrected(word), word)
            received = [None if at < code.length - code.dimension else item for at, item in enumerate(word)]
            self.assertEqual(code.error_locator(received), [1])

    def test_point_87_wrong_messages_and_words(self):
        for code in (EvaluationCode(Field(5), [0, 1, 2, 3], 2), EvaluationCode(Field(2, (1, 1, 1)), [1, 2, 3], 1)):
            n, k, q = code.length, code.dimension, code.field.order
            for bad in ([], [0] * (k - 1), [0] * (k + 1), [None] + [0] * (k - 1), [-1] + [0] * (k - 1), [0] * (k - 1) + [q],
                        [10 ** 20] * k):
                with self.assertRaises(InvalidWord):
                    code.word_for(bad)
            # None of these would be in the code, and none is near enough to a word of it.
            far = list(range(n))
            wrong = [[], far[1:], far + [0], [-1] + far[1:], far[:-1] + [q], far[:-1] + [10 ** 20], [None] * (n - 1) + [q],
                     [None] * (n + 1), [None] * (n - 1), [None] * (n - 1) + [-1]]
            for bad in wrong + [[None] + far[1:]]:
                for call in (code.contains, code.message_of):
                    with self.assertRaises(InvalidWord):
                        call(bad)
            for bad in wrong:
                for call in (code.corrected, code.message_for, code.error_locator):
                    with self.assertRaises(InvalidWord):
                        call(bad)
        with self.assertRaises(NotInCode):
            EvaluationCode(Field(5), [0, 1, 2, 3], 2).message_of([0, 0, 0, 1])
