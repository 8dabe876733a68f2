"""Points 72 and 73: judging answers; points 64 to 71 are held again with the functions that judge them."""

import itertools
import random
import unittest

from nearestword.decoding import ErasureDecoder, SyndromeDecoder
from nearestword.distances import lightest_words, minimum_distance
from nearestword.errors import Ambiguous, InvalidWord, TooLarge, TooManyErrors, Undetermined
from nearestword.families import hamming_code, parity_code, repetition_code, simplex_code, whole_code, zero_code
from nearestword.fields import Field, standard_field
from nearestword.judging import check_nearest, check_within, conflict, is_safe
from nearestword.linear import LinearCode
from nearestword.nearest import nearest, nearest_word, within, word_within
from tests.support import SMALL_FIELDS, every_word, random_rows
from tests.test_nearest import bad_received, some_codes, some_received


def single_faults(code, distance, words):
    """Answers that differ from the given one by a single fault."""
    q = code.field.order
    for other in (distance + 1, distance - 1, -1, -distance - 1, 10 ** 20):
        yield (other, words)
    for at in range(len(words)):
        yield (distance, words[:at] + words[at + 1:])
        yield (distance, words[:at] + [words[at]] + words[at:])
        yield (distance, words[:at] + [words[at][:-1]] + words[at + 1:])
        yield (distance, words[:at] + [words[at] + [0]] + words[at + 1:])
        for place, item in itertools.product(range(code.length), (-1, q, q + 5, 10 ** 20)):
            yield (distance, words[:at] + [words[at][:place] + [item] + words[at][place + 1:]] + words[at + 1:])
    if len(words) > 1:
        yield (distance, words[::-1])
        yield (distance, [words[1], words[0]] + words[2:])
    yield (distance, [])
    yield (distance, [[]])
    yield (distance, words + [[]])


class CheckNearestTest(unittest.TestCase):
    def test_point_72_answers_and_single_faults(self):
        for code in some_codes():
            for received in some_received(code, 72, 2):
                distance, words = nearest(code, received)
                self.assertIs(check_nearest(code, received, distance, words), True)
                if len(words) > 30:
                    continue
                for other, wrong in single_faults(code, distance, words):
                    self.assertIs(check_nearest(code, received, other, wrong), False)
                for word in code.words()[:20]:
                    if word not in words:
                        self.assertFalse(check_nearest(code, received, distance, sorted(words + [word])))
                        self.assertFalse(check_nearest(code, received, distance, [word] + words[1:]))

    def test_point_72_words_that_are_not_in_the_code(self):
        code = repetition_code(Field(3), 3)
        self.assertFalse(check_nearest(code, [0, 0, 1], 0, [[0, 0, 1]]))
        self.assertFalse(check_nearest(code, [0, 0, 1], 1, [[0, 0, 0], [0, 0, 2]]))
        self.assertTrue(check_nearest(code, [0, 0, 1], 1, [[0, 0, 0]]))
        self.assertTrue(check_nearest(code, [0, 2, 1], 2, [[0, 0, 0], [1, 1, 1], [2, 2, 2]]))

    def test_points_64_and_72_wrong_received_words(self):
        large = whole_code(Field(2), 13)
        for code in (repetition_code(Field(3), 4), zero_code(Field(2), 1), large):
            for received in bad_received(code):
                with self.assertRaises(InvalidWord):
                    check_nearest(code, received, 0, [[0]])
                with self.assertRaises(InvalidWord):
                    check_within(code, received, [0] * code.length, 0)
        with self.assertRaises(TooLarge):
            check_nearest(large, [0] * 13, 0, [[0] * 13])
        self.assertTrue(check_nearest(whole_code(Field(2), 12), [1] * 12, 0, [[1] * 12]))


class CheckWithinTest(unittest.TestCase):
    def test_point_72_within(self):
        for code in some_codes():
            if code.field.order ** code.length > 100:
                continue
            for received in some_received(code, 720, 2):
                for radius in (0, 1, 2, code.length, 10 ** 20):
                    accepted = [word for _, word in within(code, received, radius)]
                    for word in every_word(code.field, code.length):
                        self.assertIs(check_within(code, received, word, radius), word in accepted)

    def test_point_72_lists_that_are_no_words(self):
        code = repetition_code(Field(3), 3)
        for word in ([], [0, 0], [0] * 4, [-1] * 3, [3] * 3, [1, 1, 4], [10 ** 20] * 3, [0, 0, 1]):
            self.assertIs(check_within(code, [0, 0, 1], word, 10), False)
        self.assertIs(check_within(code, [None] * 3, [2, 2, 2], 0), True)

    def test_point_72_large_codes(self):
        field = standard_field(256)
        code = LinearCode(field, 40, random_rows(72, field, 20, 40))
        word = code.word_for([5 * at for at in range(20)])
        received = [None, word[1] ^ 1, word[2] ^ 7] + word[3:]
        self.assertIs(check_within(code, received, word, 2), True)
        self.assertIs(check_within(code, received, word, 1), False)
        self.assertIs(check_within(code, received, word[:-1] + [word[-1] ^ 1], 40), False)


class SafeRadiusTest(unittest.TestCase):
    def test_point_73_what_a_safe_radius_means(self):
        for code in some_codes():
            if code.field.order ** code.length > 600:
                continue
            for radius in range(code.length + 2):
                several = any(
                    len(within(code, word, radius)) > 1 for word in every_word(code.field, code.length)
                )
                self.assertIs(is_safe(code, radius), not several)

    def test_point_73_safe_and_conflict(self):
        for code in [*some_codes(), hamming_code(Field(2), 3), simplex_code(Field(3), 2), repetition_code(Field(2), 255)]:
            distance = minimum_distance(code)
            for radius in [*range(code.length + 2), 10 ** 20 + 7]:
                safe = distance is None or 2 * radius < distance
                self.assertIs(is_safe(code, radius), safe)
                if safe:
                    self.assertIsNone(conflict(code, radius))
                    continue
                first, second, between = conflict(code, radius)
                self.assertEqual(first, [0] * code.length)
                self.assertEqual(second, lightest_words(code)[0])
                support = [at for at, item in enumerate(second) if item != 0]
                kept = support[:min(radius, distance)]
                self.assertEqual(between, [second[at] if at in kept else 0 for at in range(code.length)])
                self.assertTrue(check_within(code, between, first, radius))
                self.assertTrue(check_within(code, between, second, radius))
                self.assertIsInstance(conflict(code, radius), tuple)

    def test_point_73_edges(self):
        code = LinearCode(Field(3), 4, [[0, 1, 2, 2]])
        self.assertTrue(is_safe(code, 0) and is_safe(code, 1))
        self.assertEqual(conflict(code, 2), ([0, 0, 0, 0], [0, 1, 2, 2], [0, 1, 2, 0]))
        self.assertEqual(conflict(code, 3), ([0, 0, 0, 0], [0, 1, 2, 2], [0, 1, 2, 2]))
        self.assertEqual(conflict(code, 99), ([0, 0, 0, 0], [0, 1, 2, 2], [0, 1, 2, 2]))
        self.assertEqual(conflict(whole_code(Field(3), 2), 1), ([0, 0], [0, 1], [0, 1]))
        self.assertIsNone(conflict(whole_code(Field(3), 2), 0))
        for radius in (0, 3, 10 ** 20):
            self.assertTrue(is_safe(zero_code(standard_field(256), 255), radius))
            self.assertIsNone(conflict(zero_code(standard_field(256), 255), radius))

    def test_point_73_limit(self):
        for order, dimension in ((2, 12), (16, 3), (64, 2)):
            field = standard_field(order)
            self.assertTrue(is_safe(whole_code(field, dimension), 0))
            self.assertFalse(is_safe(whole_code(field, dimension), 1))
            for call in (is_safe, conflict):
                for radius in (0, 1):
                    with self.assertRaises(TooLarge):
                        call(whole_code(field, dimension + 1), radius)


class DecodersTest(unittest.TestCase):
    def test_points_64_to_71_again(self):
        source = random.Random(640)
        codes = [parity_code(field, 3) for field in SMALL_FIELDS] + [hamming_code(Field(2), 3), repetition_code(Field(3), 4)]
        for code in codes:
            syndromes = SyndromeDecoder(code) if code.field.order ** code.length <= 4096 else None
            erasures = ErasureDecoder(code)
            for received in some_received(code, 641, 6):
                distance, words = nearest(code, received)
                self.assertTrue(check_nearest(code, received, distance, words))
                for radius in range(code.length + 1):
                    self.assertTrue(all(check_within(code, received, word, radius) for _, word in within(code, received, radius)))
                if None not in received and syndromes is not None:
                    self.assertTrue(check_nearest(code, received, *syndromes.nearest(received)))
                try:
                    self.assertTrue(check_within(code, received, erasures.filled(received), 0))
                except TooManyErrors:
                    self.assertGreater(distance, 0)
                except Undetermined:
                    self.assertTrue(distance == 0 and len(words) > 1)
                try:
                    self.assertTrue(check_within(code, received, nearest_word(code, received), distance))
                except Ambiguous as error:
                    self.assertTrue(check_nearest(code, received, distance, error.found))
            # Within a safe radius a word of the code is found again.
            radius = max(radius for radius in range(code.length) if is_safe(code, radius))
            word = source.choice(code.words())
            received = [(item + 1) % code.field.order if at < radius else item for at, item in enumerate(word)]
            self.assertEqual(word_within(code, received, radius), word)
