"""Points 105 to 107: interleaving, and interleaved codes."""

import itertools
import random
import unittest

from nearestword.errors import InvalidCode, InvalidWord, NotInCode, TooManyErrors
from nearestword.evaluation import EvaluationCode
from nearestword.fields import Field, standard_field
from nearestword.interleaving import InterleavedCode, interleave, spread
from tests.support import every_word

FOUR = Field(2, (1, 1, 1))


def slow_interleave(words):
    result = [None] * (len(words) * len(words[0]))
    for j, word in enumerate(words):
        for i, item in enumerate(word):
            result[i * len(words) + j] = item
    return result


def some_codes():
    source = random.Random(106)
    for field, length, dimension, depth in (
        (Field(2), 2, 1, 3), (Field(3), 3, 1, 2), (FOUR, 3, 2, 2), (FOUR, 4, 2, 1), (Field(5), 5, 1, 3),
        (Field(5), 5, 5, 2),
        (Field(7), 6, 2, 4), (standard_field(16), 12, 5, 7), (Field(31), 25, 11, 10),
    ):
        yield InterleavedCode(EvaluationCode(field, source.sample(range(field.order), length), dimension), depth)


def some_word(source, code):
    field = code.field
    return code.word_for(
        [[source.randrange(field.order) for _ in range(code.code.dimension)] for _ in range(code.depth)],
    )


class InterleavingTest(unittest.TestCase):
    def test_point_105_interleave_and_spread(self):
        source = random.Random(105)
        for depth in range(1, 6):
            for length in range(6):
                words = [[source.choice((None, -3, 0, 1, 999)) for _ in range(length)] for _ in range(depth)]
                result = interleave(words)
                self.assertEqual(result, slow_interleave(words))
                self.assertEqual(spread(result, depth), words)
                self.assertEqual(interleave(spread(result, depth)), result)

    def test_point_105_edges(self):
        self.assertEqual((interleave([[]]), interleave([[], [], []])), ([], []))
        self.assertEqual((spread([], 1), spread([], 3)), ([[]], [[], [], []]))
        self.assertEqual((interleave([[1, None]]), spread([1, None], 1)), ([1, None], [[1, None]]))
        self.assertEqual(spread([1, None], 2), [[1], [None]])
        long = list(range(600))
        self.assertEqual(interleave([long[:300], long[300:]])[:4], [0, 300, 1, 301])
        self.assertEqual(spread(long, 200)[199], [199, 399, 599])

    def test_point_105_wrong_words(self):
        for words in ([], [[], [1]], [[1], []], [[1, 2], [1, 2], [1]], [[1], [2, 3]]):
            with self.assertRaises(InvalidWord):
                interleave(words)
        for word, depth in (
            ([], 0), ([], -1), ([1], 0), ([1], 2), ([1, 2, 3], 2), ([1, 2, 3], -3), ([1, 2], 4), ([0] * 6, 12),
        ):
            with self.assertRaises(InvalidWord):
                spread(word, depth)

    def test_point_105_lists_are_new(self):
        words = [[1, 2], [3, 4]]
        for result in (interleave(words), interleave([[1, 2]])):
            result.append(9)
        word = [1, 2]
        for depth in (1, 2):
            for part in spread(word, depth):
                part.append(9)
        self.assertEqual((words, word), ([[1, 2], [3, 4]], [1, 2]))


class InterleavedCodeTest(unittest.TestCase):
    def test_point_106_attributes(self):
        for code in some_codes():
            n, d = code.code.length, code.code.dimension
            self.assertEqual(code.length, n * code.depth)
            self.assertEqual(
                (code.burst_mended, code.burst_filled),
                (code.depth * ((n - d) // 2), code.depth * (n - d)),
            )
            self.assertIs(code.field, code.code.field)

    def test_point_106_lengths(self):
        field = standard_field(256)
        for length, depth in ((255, 1), (51, 5), (1, 255), (85, 3)):
            code = InterleavedCode(EvaluationCode(field, list(range(length)), 1), depth)
            self.assertEqual(code.length, 255)
        for length, depth in (
            (64, 4), (255, 2), (128, 2), (1, 256), (2, 10 ** 20), (5, 0), (5, -1), (255, 0), (1, -255), (5, -51),
        ):
            with self.assertRaises(InvalidCode):
                InterleavedCode(EvaluationCode(field, list(range(length)), 1), depth)

    def test_point_106_words(self):
        for outer, depth in ((EvaluationCode(Field(3), [0, 2, 1], 1), 2), (EvaluationCode(Field(2), [1, 0], 1), 3)):
            code = InterleavedCode(outer, depth)
            words = []
            for messages in itertools.product(every_word(outer.field, outer.dimension), repeat=depth):
                word = code.word_for(list(messages))
                self.assertEqual(word, slow_interleave([outer.word_for(message) for message in messages]))
                self.assertTrue(code.contains(word))
                self.assertEqual(code.messages_of(word), list(messages))
                words.append(word)
            for word in every_word(outer.field, code.length):
                self.assertEqual(code.contains(word), word in words)
                if word not in words:
                    with self.assertRaises(NotInCode):
                        code.messages_of(word)
            self.assertEqual(code.linear().words(), sorted(words))

    def test_point_106_depth_1(self):
        outer = EvaluationCode(FOUR, [3, 1, 2], 2)
        code = InterleavedCode(outer, 1)
        self.assertEqual(code.word_for([[1, 2]]), outer.word_for([1, 2]))
        self.assertTrue(code.linear().same_as(outer.linear()))
        self.assertEqual((code.burst_mended, code.burst_filled), (0, 1))

    def test_point_106_linear(self):
        source = random.Random(1060)
        for code in some_codes():
            linear = code.linear()
            self.assertEqual((linear.length, linear.dimension), (code.length, code.depth * code.code.dimension))
            self.assertIs(linear.field, code.field)
            for _ in range(5):
                self.assertTrue(linear.contains(some_word(source, code)))

    def test_point_106_wrong_messages(self):
        code = InterleavedCode(EvaluationCode(Field(5), [0, 1, 2], 2), 2)
        good = [1, 2]
        for messages in ([], [good], [good] * 3, [good, [1]], [[1, 2, 3], good], [good, [1, 5]], [[-1, 0], good],
                         [good, [None, 1]], [good, []], [[1, 2, 3, 4]]):
            with self.assertRaises(InvalidWord):
                code.word_for(messages)

    def test_point_106_wrong_words(self):
        code = InterleavedCode(EvaluationCode(Field(5), [0, 1, 2], 2), 2)
        far = [1, 0, 0, 0, 0, 0]
        self.assertFalse(code.contains(far))
        for word in ([], far[:-1], far + [0], far[:3], [5] + far[1:], far[:-1] + [-1], [10 ** 20] * 6):
            for call in (code.contains, code.messages_of, code.corrected):
                with self.assertRaises(InvalidWord):
                    call(word)
        for call in (code.contains, code.messages_of):
            with self.assertRaises(InvalidWord):
                call([None] + far[1:])
        with self.assertRaises(InvalidWord):
            code.corrected([None] * 5 + [5])
        with self.assertRaises(NotInCode):
            code.messages_of(far)
        # A part that is no word of the code stands first, last, or in every place.
        for word in ([1, 0, 0, 0, 0, 0], [0, 0, 0, 0, 0, 1], [1, 1, 0, 0, 0, 0]):
            with self.assertRaises(NotInCode):
                code.messages_of(word)

    def test_point_107_corrected_part_by_part(self):
        source = random.Random(107)
        failed = 0
        for code in some_codes():
            for _ in range(30):
                received = some_word(source, code)
                for at in source.sample(range(code.length), source.randrange(code.burst_filled + 2)):
                    received[at] = source.choice([None] + code.field.all_elements())
                try:
                    expected = slow_interleave([code.code.corrected(part) for part in spread(received, code.depth)])
                except TooManyErrors:
                    failed += 1
                    with self.assertRaises(TooManyErrors):
                        code.corrected(received)
                else:
                    self.assertEqual(code.corrected(received), expected)
        self.assertGreater(failed, 10)

    def test_point_107_bursts(self):
        source = random.Random(1070)
        for code in some_codes():
            order = code.field.order
            word = some_word(source, code)
            starts = range(code.length - code.burst_mended + 1)
            for start in source.sample(starts, min(len(starts), 25)) + [0, starts[-1]]:
                received = list(word)
                for at in range(start, start + code.burst_mended):
                    received[at] = (word[at] + source.randrange(1, order)) % order
                self.assertEqual(code.corrected(received), word)
            starts = range(code.length - code.burst_filled + 1)
            for start in source.sample(starts, min(len(starts), 25)) + [0, starts[-1]]:
                received = list(word)
                received[start:start + code.burst_filled] = [None] * code.burst_filled
                self.assertEqual(code.corrected(received), word)

    def test_point_107_bursts_that_are_one_longer(self):
        source = random.Random(1071)
        for code in some_codes():
            if code.burst_filled >= code.length:
                continue
            word = some_word(source, code)
            for start in (0, code.length - code.burst_filled - 1):
                received = list(word)
                received[start:start + code.burst_filled + 1] = [None] * (code.burst_filled + 1)
                with self.assertRaises(TooManyErrors):
                    code.corrected(received)
            received = list(word)
            for at in range(code.burst_mended + 1):
                received[at] = (word[at] + 1) % code.field.order
            try:
                self.assertNotEqual(code.corrected(received), word)
            except TooManyErrors:
                pass

    def test_point_107_a_part_that_fails(self):
        code = InterleavedCode(EvaluationCode(Field(5), [0, 1, 2, 3], 2), 3)
        word = code.word_for([[1, 2], [3, 4], [0, 0]])
        for part in range(3):
            received = list(word)
            received[part::3] = [None] * 4
            with self.assertRaises(TooManyErrors):
                code.corrected(received)
