"""Points 64, 66 and 69 to 71: decoding with tables and equations."""

import itertools
import random
import unittest

from nearestword.cosets import leaders
from nearestword.decoding import ErasureDecoder, SyndromeDecoder
from nearestword.distances import minimum_distance
from nearestword.errors import Ambiguous, InvalidWord, TooLarge, TooManyErrors, Undetermined
from nearestword.families import hamming_code, parity_code, repetition_code, whole_code, zero_code
from nearestword.fields import Field, standard_field
from nearestword.linear import LinearCode
from nearestword.nearest import nearest
from tests.support import SMALL_FIELDS, every_word, random_rows, slow_negative, slow_plus, weight


def some_codes():
    for field in SMALL_FIELDS:
        for length in range(1, 7):
            if field.order ** length <= 300:
                yield from (zero_code(field, length), whole_code(field, length), repetition_code(field, length))
                for many in range(1, length):
                    yield LinearCode(field, length, random_rows(690 + many, field, many, length))


def fitting(code, received):
    return [
        word for word in code.words()
        if all(told is None or told == item for item, told in zip(word, received))
    ]


class SyndromeDecoderTest(unittest.TestCase):
    def test_points_69_and_70_every_word(self):
        for code in some_codes():
            decoder = SyndromeDecoder(code)
            self.assertIs(decoder.code, code)
            table = dict(leaders(code))
            for word in every_word(code.field, code.length):
                found = nearest(code, word)
                lightest = decoder.leaders_of(word)
                self.assertEqual(lightest, table[tuple(code.syndrome(word))])
                self.assertEqual(decoder.nearest(word), found)
                differences = sorted(
                    [slow_plus(code.field, x, slow_negative(code.field, y)) for x, y in zip(word, leader)]
                    for leader in lightest
                )
                self.assertEqual(differences, found[1])
                if len(found[1]) == 1:
                    self.assertEqual(decoder.corrected(word), found[1][0])
                else:
                    with self.assertRaises(Ambiguous) as caught:
                        decoder.corrected(word)
                    self.assertEqual(caught.exception.found, found[1])

    def test_point_69_same_syndrome(self):
        code = LinearCode(Field(3), 3, [[1, 2, 0]])
        words = every_word(Field(3), 3)
        for first, second in itertools.product(words, words):
            difference = [(x - y) % 3 for x, y in zip(first, second)]
            self.assertEqual(code.syndrome(first) == code.syndrome(second), code.contains(difference))

    def test_point_70_two_decoders(self):
        first, second = SyndromeDecoder(hamming_code(Field(2), 3)), SyndromeDecoder(repetition_code(Field(2), 7))
        word = [0, 0, 0, 0, 1, 1, 1]
        for _ in range(2):
            self.assertEqual(second.corrected(word), [0] * 7)
            self.assertEqual(first.nearest(word), nearest(first.code, word))
            self.assertEqual(first.corrected([1, 0, 0, 0, 0, 0, 0]), [0] * 7)
            self.assertEqual(second.corrected([1, 0, 1, 0, 1, 1, 0]), [1] * 7)

    def test_point_70_tables_are_kept(self):
        decoder = SyndromeDecoder(repetition_code(Field(2), 2))
        decoder.leaders_of([0, 1])[0][0] = 7
        decoder.leaders_of([0, 1]).clear()
        decoder.nearest([0, 1])[1].clear()
        self.assertEqual(decoder.leaders_of([1, 0]), [[0, 1], [1, 0]])
        self.assertEqual(decoder.nearest([1, 0]), (1, [[0, 0], [1, 1]]))

    def test_point_70_limit(self):
        for order, length in ((2, 12), (16, 3), (64, 2)):
            field = standard_field(order)
            decoder = SyndromeDecoder(repetition_code(field, length))
            self.assertEqual(decoder.corrected([1] * length), [1] * length)
            for code in (zero_code(field, length + 1), whole_code(field, length + 1)):
                with self.assertRaises(TooLarge):
                    SyndromeDecoder(code)
        with self.assertRaises(TooLarge):
            SyndromeDecoder(zero_code(standard_field(256), 255))

    def test_points_64_and_70_wrong_words(self):
        decoder = SyndromeDecoder(repetition_code(Field(3), 3))
        for bad in ([], [0, 0], [0] * 4, [None, 0, 0], [None] * 3, [0, -1, 0], [0, 0, 3], [4, 0, 0]):
            for call in (decoder.leaders_of, decoder.corrected, decoder.nearest):
                with self.assertRaises(InvalidWord):
                    call(bad)


class ErasureDecoderTest(unittest.TestCase):
    def test_point_71_can_fill(self):
        for code in some_codes():
            decoder = ErasureDecoder(code)
            self.assertIs(decoder.code, code)
            distance = minimum_distance(code)
            for many in range(code.length + 1):
                for positions in map(list, itertools.combinations(range(code.length), many)):
                    hidden = [
                        word for word in code.words()
                        if weight(word) > 0 and all(word[at] == 0 for at in range(code.length) if at not in positions)
                    ]
                    self.assertEqual(decoder.can_fill(positions), not hidden)
                    self.assertEqual(decoder.can_fill(positions[::-1] + positions), not hidden)
                    if distance is None or many < distance:
                        self.assertTrue(decoder.can_fill(positions))

    def test_point_71_filled(self):
        source = random.Random(71)
        seen = set()
        for code in some_codes():
            decoder = ErasureDecoder(code)
            for erased in range(code.length + 1):
                for _ in range(12):
                    received = source.choice(code.words())[:]
                    if source.randrange(3) == 0:
                        received[source.randrange(code.length)] = source.randrange(code.field.order)
                    for at in source.sample(range(code.length), erased):
                        received[at] = None
                    words = fitting(code, received)
                    seen.add(min(len(words), 2))
                    if len(words) == 1:
                        self.assertEqual(decoder.filled(received), words[0])
                        continue
                    with self.assertRaises(Undetermined if words else TooManyErrors):
                        decoder.filled(received)
        self.assertEqual(seen, {0, 1, 2})

    def test_point_71_edges(self):
        decoder = ErasureDecoder(parity_code(Field(5), 4))
        self.assertEqual(decoder.filled([1, 2, None, 4]), [1, 2, 3, 4])
        self.assertEqual(decoder.filled([1, 2, 3, 4]), [1, 2, 3, 4])
        with self.assertRaises(TooManyErrors):
            decoder.filled([1, 2, 3, 3])
        with self.assertRaises(Undetermined):
            decoder.filled([None, None, 3, 4])
        with self.assertRaises(Undetermined):
            decoder.filled([None] * 4)
        self.assertEqual(ErasureDecoder(zero_code(Field(5), 2)).filled([None, None]), [0, 0])
        self.assertTrue(ErasureDecoder(zero_code(Field(5), 2)).can_fill([1, 0, 1]))
        with self.assertRaises(TooManyErrors):
            ErasureDecoder(zero_code(Field(5), 2)).filled([None, 1])
        self.assertFalse(ErasureDecoder(whole_code(Field(5), 2)).can_fill([0]))
        self.assertTrue(ErasureDecoder(whole_code(Field(5), 2)).can_fill([]))
        # No word fits, although several words would fit without the item that fits none.
        code = LinearCode(Field(2), 3, [[1, 1, 0]])
        with self.assertRaises(TooManyErrors):
            ErasureDecoder(code).filled([None, None, 1])
        with self.assertRaises(Undetermined):
            ErasureDecoder(code).filled([None, None, 0])

    def test_point_71_large_codes(self):
        field = standard_field(256)
        code = LinearCode(field, 60, random_rows(71, field, 30, 60))
        decoder = ErasureDecoder(code)
        word = code.word_for([7 * at % 256 for at in range(30)])
        self.assertEqual(decoder.filled([None if at % 3 == 1 else item for at, item in enumerate(word)]), word)
        self.assertTrue(decoder.can_fill(list(range(0, 60, 3)) * 2))
        self.assertFalse(decoder.can_fill(list(range(31))))
        with self.assertRaises(Undetermined):
            decoder.filled([None] * 31 + word[31:])
        with self.assertRaises(TooManyErrors):
            decoder.filled([None] + word[1:-1] + [word[-1] ^ 1])
        longest = ErasureDecoder(parity_code(Field(2), 255))
        self.assertEqual(longest.filled([None] + [1] * 254), [0] + [1] * 254)

    def test_points_64_and_71_wrong_received_words(self):
        for code in (parity_code(Field(3), 3), zero_code(Field(3), 3), whole_code(Field(3), 3)):
            for bad in ([], [0, 0], [None] * 2, [0] * 4, [0, -1, None], [0, 0, 3], [10 ** 20, None, None]):
                with self.assertRaises(InvalidWord):
                    ErasureDecoder(code).filled(bad)
