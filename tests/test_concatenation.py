"""Points 113 to 118: concatenated codes."""

import itertools
import random
import unittest

from nearestword.concatenation import ConcatenatedCode
from nearestword.distances import minimum_distance
from nearestword.errors import InvalidCode, InvalidWord, NotInCode, TooManyErrors
from nearestword.evaluation import EvaluationCode
from nearestword.families import parity_code, repetition_code, whole_code
from nearestword.fields import Field, standard_field
from nearestword.linear import LinearCode
from tests.support import every_word, slow_cost

TWO = Field(2)
THREE = Field(3)
FOUR = Field(2, (1, 1, 1))
EIGHT = standard_field(8)
NINE = standard_field(9)


def small_codes():
    yield ConcatenatedCode(EvaluationCode(FOUR, [0, 1, 2], 1), LinearCode(TWO, 3, [[1, 0, 1], [0, 1, 1]]))
    yield ConcatenatedCode(EvaluationCode(FOUR, [2, 0, 3, 1], 2), LinearCode(TWO, 3, [[0, 1, 1], [1, 1, 1]]))
    yield ConcatenatedCode(EvaluationCode(FOUR, [1, 3], 1), LinearCode(TWO, 5, [[1, 0, 1, 0, 1], [0, 1, 1, 1, 0]]))
    yield ConcatenatedCode(EvaluationCode(TWO, [1, 0], 1), repetition_code(TWO, 3))
    yield ConcatenatedCode(EvaluationCode(THREE, [0, 1, 2], 2), repetition_code(THREE, 2))
    # The degree of the inner code's field is 1, but its modulus is another one.
    yield ConcatenatedCode(EvaluationCode(THREE, [2, 1], 1), repetition_code(Field(3, (2, 1)), 3))
    yield ConcatenatedCode(EvaluationCode(NINE, [4, 7], 1), LinearCode(THREE, 4, [[1, 0, 1, 1], [0, 1, 1, 2]]))
    yield ConcatenatedCode(EvaluationCode(EIGHT, [5, 1, 0], 1), whole_code(TWO, 3))
    yield ConcatenatedCode(EvaluationCode(FOUR, [1], 1), LinearCode(TWO, 3, [[0, 1, 0], [0, 0, 1]]))


def large_codes():
    sixteen = standard_field(16)
    hamming = LinearCode(
        TWO,
        8,
        [[1, 0, 0, 0, 0, 1, 1, 1], [0, 1, 0, 0, 1, 0, 1, 1], [0, 0, 1, 0, 1, 1, 0, 1], [0, 0, 0, 1, 1, 1, 1, 0]],
    )
    yield ConcatenatedCode(EvaluationCode(sixteen, list(range(15)), 5), hamming)
    yield ConcatenatedCode(
        EvaluationCode(EIGHT, list(range(8)), 3),
        LinearCode(TWO, 7, [[1, 0, 0, 1, 1, 0, 1], [0, 1, 0, 1, 0, 1, 1], [0, 0, 1, 0, 1, 1, 1]]),
    )
    yield ConcatenatedCode(EvaluationCode(NINE, list(range(9)), 2), LinearCode(THREE, 4, [[1, 0, 1, 1], [0, 1, 1, 2]]))
    yield ConcatenatedCode(EvaluationCode(Field(31), list(range(20)), 9), repetition_code(Field(31), 5))
    yield ConcatenatedCode(
        EvaluationCode(standard_field(256), list(range(25)), 20),
        LinearCode(TWO, 10, whole_code(TWO, 10).rows[1:9]),
    )


def slow_word(code, message):
    digits = [code.outer.field.digits(item) for item in code.outer.word_for(message)]
    return [item for few in digits for item in code.inner.word_for(few)]


def some_message(source, code):
    return [source.randrange(code.outer.field.order) for _ in range(code.outer.dimension)]


def spoiled(code, word, errors, erased, source):
    received = list(word)
    for at in errors:
        received[at] = (word[at] + source.randrange(1, code.field.order)) % code.field.order
    for at in erased:
        received[at] = None
    return received


class ConcatenatedCodeTest(unittest.TestCase):
    def test_point_113_attributes(self):
        for code in itertools.chain(small_codes(), large_codes()):
            self.assertEqual(code.length, code.outer.length * code.inner.length)
            self.assertEqual(code.dimension, code.outer.field.degree * code.outer.dimension)
            self.assertIs(code.field, code.inner.field)
        outer, inner = EvaluationCode(FOUR, [0, 1], 1), parity_code(TWO, 3)
        code = ConcatenatedCode(outer, inner)
        self.assertIs(code.outer, outer)
        self.assertIs(code.inner, inner)

    def test_point_113_wrong_codes(self):
        four = EvaluationCode(FOUR, [0, 1, 2], 1)
        wrong = [
            (four, repetition_code(TWO, 3)), (four, whole_code(TWO, 3)), (four, LinearCode(TWO, 3, [])),
            (four, parity_code(THREE, 3)), (four, whole_code(Field(5), 2)), (four, whole_code(FOUR, 2)),
            (four, repetition_code(FOUR, 3)),
            (EvaluationCode(NINE, [0, 1], 1), parity_code(TWO, 3)),
            (EvaluationCode(NINE, [0, 1], 1), whole_code(NINE, 2)),
            (EvaluationCode(TWO, [0, 1], 1), parity_code(TWO, 3)),
            (EvaluationCode(TWO, [0, 1], 1), repetition_code(FOUR, 2)),
            (EvaluationCode(EIGHT, [0, 1], 1), parity_code(TWO, 3)),
            (EvaluationCode(standard_field(16), list(range(16)), 1), LinearCode(TWO, 16, whole_code(TWO, 16).rows[:4])),
            (EvaluationCode(TWO, [0, 1], 1), repetition_code(TWO, 128)),
            (EvaluationCode(standard_field(256), list(range(32)), 1), whole_code(TWO, 8)),
        ]
        for outer, inner in wrong:
            with self.assertRaises(InvalidCode):
                ConcatenatedCode(outer, inner)

    def test_point_113_lengths(self):
        for outer, inner in (
            (EvaluationCode(standard_field(16), list(range(15)), 1), LinearCode(TWO, 17, whole_code(TWO, 17).rows[:4])),
            (EvaluationCode(TWO, [1], 1), repetition_code(TWO, 255)),
            (EvaluationCode(Field(31), list(range(15)), 3), repetition_code(Field(31), 17)),
        ):
            code = ConcatenatedCode(outer, inner)
            self.assertEqual((code.length, code.linear().length), (255, 255))

    def test_point_114_words(self):
        for code in small_codes():
            words = []
            for message in every_word(code.outer.field, code.outer.dimension):
                word = code.word_for(message)
                self.assertEqual(word, slow_word(code, message))
                self.assertEqual(code.message_of(word), message)
                self.assertTrue(code.contains(word))
                words.append(word)
            self.assertEqual(len({tuple(word) for word in words}), len(words))
            linear = code.linear()
            self.assertEqual((linear.words(), linear.dimension), (sorted(words), code.dimension))
            self.assertIs(linear.field, code.field)
            if code.field.order ** code.length <= 4096:
                for word in every_word(code.field, code.length):
                    self.assertEqual(code.contains(word), word in words)
                    if word not in words:
                        with self.assertRaises(NotInCode):
                            code.message_of(word)

    def test_point_114_words_of_large_codes(self):
        source = random.Random(114)
        for code in large_codes():
            linear = code.linear()
            self.assertEqual((linear.dimension, linear.length), (code.dimension, code.length))
            for _ in range(4):
                message = some_message(source, code)
                word = code.word_for(message)
                self.assertEqual(word, slow_word(code, message))
                self.assertTrue(linear.contains(word))
                self.assertEqual(code.message_of(word), message)

    def test_point_114_inner_words_that_make_no_word(self):
        code = ConcatenatedCode(EvaluationCode(FOUR, [0, 1, 2], 1), parity_code(TWO, 3))
        # Each block is an inner word, but the elements are no outer word; or one block is no inner word.
        for word in ([1, 0, 1, 0, 1, 1, 0, 0, 0], [1, 0, 1] * 2 + [0, 0, 1], [1, 1, 1] * 3):
            self.assertFalse(code.contains(word))
            with self.assertRaises(NotInCode):
                code.message_of(word)

    def test_point_114_wrong_messages_and_words(self):
        code = ConcatenatedCode(EvaluationCode(FOUR, [0, 1, 2], 2), parity_code(TWO, 3))
        for message in ([], [0], [0] * 3, [4, 0], [0, -1], [None, 0], [0, 10 ** 20]):
            with self.assertRaises(InvalidWord):
                code.word_for(message)
        far = [1, 1, 1] * 3
        for word in ([], far[:-1], far + [0], far[:3], [2] + far[1:], far[:-1] + [-1], [3] * 9):
            for call in (
                code.contains, code.message_of, code.judged, code.corrected,
                lambda told: code.outer_received(told, 1),
            ):
                with self.assertRaises(InvalidWord):
                    call(word)
        for word in ([None] + far[1:], far[:-1] + [None]):
            for call in (code.contains, code.message_of):
                with self.assertRaises(InvalidWord):
                    call(word)
        for call in (code.judged, code.corrected, lambda told: code.outer_received(told, 1)):
            with self.assertRaises(InvalidWord):
                call([None] * 8 + [2])

    def test_point_115_distance(self):
        for code in small_codes():
            expected = minimum_distance(code.inner) * (code.outer.length - code.outer.dimension + 1)
            self.assertEqual(code.distance, expected)
            self.assertGreaterEqual(minimum_distance(code.linear()), code.distance)
        self.assertEqual([code.distance for code in large_codes()], [44, 24, 24, 60, 6])

    def test_mended(self):
        code = next(small_codes())
        self.assertEqual([code.mended(erased) for erased in range(8)], [2, 2, 1, 1, 0, 0, -1, -1])

    def slow_judged(self, code, received):
        size, least = code.inner.length, minimum_distance(code.inner)
        found = []
        for at in range(0, code.length, size):
            block = received[at:at + size]
            near = [word for word in code.inner.words() if slow_cost(word, block) < least]
            assert len(near) <= 1
            if near:
                element = code.outer.field.element(code.inner.message_of(near[0]))
                found.append((element, slow_cost(near[0], block)))
            else:
                found.append((None, least))
        return found

    def test_points_116_and_117_judged_blocks(self):
        source = random.Random(116)
        for code in itertools.chain(small_codes(), large_codes()):
            least = minimum_distance(code.inner)
            for erased in (0, 0, 20, 50, 100):
                received = code.word_for(some_message(source, code))
                for at in range(code.length):
                    if source.randrange(100) < 20:
                        received[at] = source.randrange(code.field.order)
                    if source.randrange(100) < erased:
                        received[at] = None
                expected = self.slow_judged(code, received)
                self.assertEqual(code.judged(received), expected)
                for threshold in range(1, least + 1):
                    outer = [element if doubt < threshold else None for element, doubt in expected]
                    self.assertEqual(code.outer_received(received, threshold), outer)

    def test_point_116_blocks(self):
        code = ConcatenatedCode(EvaluationCode(FOUR, [0, 1], 1), LinearCode(TWO, 5, [[1, 0, 1, 0, 1], [0, 1, 1, 1, 0]]))
        self.assertEqual(minimum_distance(code.inner), 3)
        self.assertEqual(code.judged([1, 0, 1, 0, 1] + [None] * 5), [(1, 0), (None, 3)])
        self.assertEqual(code.judged([0, 1, 1, 1, 1] + [1, 1, 0, None, None]), [(2, 2), (3, 2)])
        self.assertEqual(code.judged([1, 0, 0, 1, 0] + [0, 0, None, 0, 0]), [(None, 3), (0, 1)])
        self.assertEqual(code.outer_received([0, 1, 1, 1, 1] + [0, 0, None, 0, 0], 1), [None, None])
        self.assertEqual(code.outer_received([0, 1, 1, 1, 1] + [0, 0, None, 0, 0], 2), [None, 0])
        self.assertEqual(code.outer_received([0, 1, 1, 1, 1] + [0, 0, None, 0, 0], 3), [2, 0])

    def check_corrected(self, code, words, received):
        near = [word for word in words if slow_cost(word, received) < code.distance]
        self.assertLessEqual(len(near), 1)
        if near:
            self.assertEqual(code.corrected(received), near[0])
        else:
            with self.assertRaises(TooManyErrors):
                code.corrected(received)
        return bool(near)

    def test_point_118_every_received_word(self):
        for code in (
            ConcatenatedCode(EvaluationCode(FOUR, [0, 1, 2], 1), parity_code(TWO, 3)),
            ConcatenatedCode(EvaluationCode(TWO, [1, 0], 1), repetition_code(TWO, 4)),
            ConcatenatedCode(EvaluationCode(THREE, [0, 1, 2], 2), repetition_code(THREE, 2)),
        ):
            words = [code.word_for(message) for message in every_word(code.outer.field, code.outer.dimension)]
            for received in itertools.product([None] + code.field.all_elements(), repeat=code.length):
                self.check_corrected(code, words, list(received))

    def test_point_118_random_received_words(self):
        source = random.Random(118)
        outcomes = [0, 0]
        for code in small_codes():
            words = [code.word_for(message) for message in every_word(code.outer.field, code.outer.dimension)]
            for _ in range(60):
                places = source.sample(range(code.length), source.randrange(min(code.length, code.distance + 1) + 1))
                cut = source.randrange(len(places) + 1)
                received = spoiled(code, source.choice(words), places[:cut], places[cut:], source)
                outcomes[self.check_corrected(code, words, received)] += 1
        self.assertGreater(min(outcomes), 50)

    def test_point_118_costs_just_below_the_distance(self):
        source = random.Random(1180)
        for code in itertools.chain(small_codes(), large_codes()):
            word = code.word_for(some_message(source, code))
            for errors in sorted({0, 1, (code.distance - 1) // 4, (code.distance - 1) // 2}):
                erased = code.distance - 1 - 2 * errors
                if erased < 0 or errors + erased > code.length:
                    continue
                start = source.randrange(code.length - errors - erased + 1)
                stretch = list(range(start, start + errors + erased))
                for places in (source.sample(range(code.length), errors + erased), stretch, stretch[::-1]):
                    received = spoiled(code, word, places[:errors], places[errors:], source)
                    self.assertEqual(slow_cost(word, received), code.distance - 1)
                    self.assertEqual(code.corrected(received), word)

    def test_point_118_costs_at_the_distance(self):
        source = random.Random(1181)
        failed = 0
        for code in itertools.chain(small_codes(), large_codes()):
            word = code.word_for(some_message(source, code))
            for errors in (0, code.distance // 2):
                places = source.sample(range(code.length), code.distance - errors)
                received = spoiled(code, word, places[:errors], places[errors:code.distance - errors], source)
                if slow_cost(word, received) < code.distance:
                    continue
                try:
                    other = code.corrected(received)
                except TooManyErrors:
                    failed += 1
                    continue
                self.assertNotEqual(other, word)
                self.assertTrue(code.contains(other))
                self.assertLess(slow_cost(other, received), code.distance)
        self.assertGreater(failed, 10)

    def leading_thresholds(self, code, word, received):
        """The thresholds with which the outer code corrects what it receives to the outer word of the word."""
        size = code.inner.length
        found = []
        for threshold in range(1, minimum_distance(code.inner) + 1):
            try:
                outer = code.outer.corrected(code.outer_received(received, threshold))
            except TooManyErrors:
                continue
            blocks = [word[at:at + size] for at in range(0, code.length, size)]
            if [code.outer.field.digits(item) for item in outer] == [code.inner.message_of(block) for block in blocks]:
                found.append(threshold)
        return tuple(found)

    def test_point_118_a_single_threshold_leads_to_the_word(self):
        code = ConcatenatedCode(EvaluationCode(Field(5), [0, 1, 2, 3], 1), repetition_code(Field(5), 5))
        word = code.word_for([3])
        source = random.Random(1182)
        found = set()
        for errors in (9, 8, 7, 6) * 500:
            places = source.sample(range(20), 19 - errors)
            received = spoiled(code, word, places[:errors], places[errors:], source)
            leading = self.leading_thresholds(code, word, received)
            self.assertTrue(leading)
            found.add(leading)
            self.assertEqual(code.corrected(received), word)
        self.assertLessEqual({(3,), (4,), (5,)}, found)

    def test_point_118_every_block_erased(self):
        for code in itertools.chain(small_codes(), large_codes()):
            with self.assertRaises(TooManyErrors):
                code.corrected([None] * code.length)

    def test_point_118_no_inner_word_within_reach(self):
        code = ConcatenatedCode(EvaluationCode(FOUR, [0, 1, 2], 1), parity_code(TWO, 3))
        self.assertEqual(code.judged([1, 1, 1] * 3), [(None, 2)] * 3)
        with self.assertRaises(TooManyErrors):
            code.corrected([1, 1, 1] * 3)
