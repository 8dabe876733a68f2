"""Points 74 to 77 and 87: cyclic codes."""

import itertools
import unittest

from nearestword.cyclic import CyclicCode, cyclic_generators
from nearestword.errors import InvalidCode, InvalidWord, NotInCode, TooLarge
from nearestword.fields import Field, standard_field
from nearestword.polynomials import poly_divide, poly_from_roots, poly_multiply, poly_trim
from tests.support import SMALL_FIELDS, every_word

TWO = Field(2)


def full_circle(field, length):
    return [field.negative(1)] + [0] * (length - 1) + [1]


def slow_generators(field, length):
    """All monic polynomials that divide x ** length - 1, in ascending order."""
    return [
        word[::-1] + [1]
        for degree in range(length + 1) for word in every_word(field, degree)
        if poly_divide(field, full_circle(field, length), word[::-1] + [1])[1] == []
    ]


def some_codes():
    for field in SMALL_FIELDS:
        for length in range(1, 8):
            if field.order ** length <= 800:
                for generator in slow_generators(field, length):
                    yield CyclicCode(field, length, generator)


class CyclicCodeTest(unittest.TestCase):
    def test_point_74_words_and_parts(self):
        for code in some_codes():
            field, length, generator = code.field, code.length, code.generator
            self.assertEqual(code.dimension, length - len(generator) + 1)
            self.assertEqual(poly_multiply(field, generator, code.check_polynomial), full_circle(field, length))
            words = [
                word for word in every_word(field, length)
                if poly_divide(field, poly_trim(word), generator)[1] == []
            ]
            self.assertEqual([word for word in every_word(field, length) if code.contains(word)], words)
            linear = code.linear()
            self.assertEqual(linear.words(), words)
            self.assertEqual((linear.field, linear.length, linear.dimension), (field, length, code.dimension))

    def test_point_74_edges(self):
        field = Field(5)
        whole = CyclicCode(field, 3, [1])
        self.assertEqual((whole.dimension, whole.check_polynomial), (3, [4, 0, 0, 1]))
        self.assertEqual(whole.word_for([1, 2, 3]), [1, 2, 3])
        zero = CyclicCode(field, 3, [4, 0, 0, 1])
        self.assertEqual((zero.dimension, zero.check_polynomial), (0, [1]))
        self.assertEqual((zero.word_for([]), zero.message_of([0, 0, 0])), ([0, 0, 0], []))
        self.assertEqual(zero.linear().words(), [[0, 0, 0]])
        self.assertEqual((zero.contains([0, 0, 0]), zero.contains([1, 0, 0])), (True, False))
        self.assertEqual((CyclicCode(TWO, 1, [1, 1]).dimension, CyclicCode(TWO, 1, [1]).dimension), (0, 1))
        # The prime divides the length.
        self.assertEqual(CyclicCode(field, 5, poly_from_roots(field, [1, 1, 1])).dimension, 2)
        self.assertEqual(CyclicCode(TWO, 8, poly_from_roots(TWO, [1] * 7)).linear().words(), [[0] * 8, [1] * 8])
        self.assertEqual(CyclicCode(TWO, 255, [1, 1]).dimension, 254)

    def test_point_74_wrong_codes(self):
        field = Field(5)
        for length in (0, -1, 256, 10 ** 20):
            for generator in ([1], [4, 1], []):
                with self.assertRaises(InvalidCode):
                    CyclicCode(field, length, generator)
        for generator in (
            [], [2], [3, 2], [4, 4], [2, 1], [3, 1], [0, 1], [1, 1, 1, 1], [0, 0, 0, 1], [1, 0, 0, 1], [4, 0, 0, 0, 1],
            [4, 0, 0, 2], [1, 0, 0, 4],
        ):
            with self.assertRaises(InvalidCode):
                CyclicCode(field, 3, generator)
        with self.assertRaises(InvalidCode):
            CyclicCode(TWO, 7, poly_from_roots(TWO, [1, 1]))
        self.assertEqual(CyclicCode(field, 255, [4, 1]).length, 255)
        self.assertEqual(CyclicCode(field, 1, [4, 1]).length, 1)

    def test_point_75_messages(self):
        for code in some_codes():
            field, k = code.field, code.dimension
            words = code.linear().words()
            for message in every_word(field, k)[:150]:
                word = code.word_for(message)
                self.assertEqual([w for w in words if w[code.length - k:] == message], [word])
                self.assertTrue(code.contains(word))
                self.assertEqual(code.message_of(word), message)

    def test_point_76_shifts(self):
        for code in some_codes():
            n = code.length
            for word in code.linear().words()[-3:] + [list(range(n)) if n <= code.field.order else [0] * n]:
                inside = code.contains(word)
                for by in (0, 1, -1, 2, n, -n, n - 1, 1 - n, 3 * n + 2, 10 ** 39 + 7, -10 ** 39 - 7):
                    shifted = code.shifted(word, by)
                    for i in range(n):
                        self.assertEqual(shifted[(i + by) % n], word[i])
                    self.assertEqual(code.contains(shifted), inside)
                self.assertEqual(code.shifted(word, 0), word)
                self.assertIsNot(code.shifted(word, 0), word)

    def test_point_87_wrong_messages_and_words(self):
        for code in (CyclicCode(Field(5), 4, [3, 1]), CyclicCode(Field(2, (1, 1, 1)), 3, [1, 1])):
            n, k, q = code.length, code.dimension, code.field.order
            for bad in ([], [0] * (k - 1), [0] * (k + 1), [None] + [0] * (k - 1), [-1] + [0] * (k - 1), [0] * (k - 1) + [q],
                        [q + 1] * k):
                with self.assertRaises(InvalidWord):
                    code.word_for(bad)
            # None of these words would be in the code.
            for bad in ([], [1] * (n - 1), [1] + [0] * n, [None] + [1] * (n - 1), [-1] + [0] * (n - 1), [0] * (n - 1) + [q],
                        [10 ** 20] + [0] * (n - 1)):
                for call in (code.contains, code.message_of):
                    with self.assertRaises(InvalidWord):
                        call(bad)
                with self.assertRaises(InvalidWord):
                    code.shifted(bad, 1)
            with self.assertRaises(NotInCode):
                code.message_of([1] + [0] * (n - 1))
        zero = CyclicCode(Field(5), 1, [4, 1])
        with self.assertRaises(InvalidWord):
            zero.word_for([0])
        with self.assertRaises(NotInCode):
            zero.message_of([1])


class GeneratorsTest(unittest.TestCase):
    def test_point_77_generators(self):
        for field in SMALL_FIELDS:
            for length in range(1, 13):
                if field.order ** length <= 5000:
                    found = cyclic_generators(field, length)
                    self.assertEqual(found, slow_generators(field, length))
                    self.assertEqual((found[0], found[-1]), ([1], full_circle(field, length)))

    def test_point_77_edges(self):
        self.assertEqual(cyclic_generators(TWO, 1), [[1], [1, 1]])
        self.assertEqual(cyclic_generators(standard_field(256), 1), [[1], [1, 1]])
        self.assertEqual(cyclic_generators(Field(31), 1), [[1], [30, 1]])
        self.assertEqual(cyclic_generators(TWO, 4), [[1], [1, 1], [1, 0, 1], [1, 1, 1, 1], [1, 0, 0, 0, 1]])
        self.assertEqual(len(cyclic_generators(TWO, 24)), 81)
        for field, length in ((TWO, 25), (Field(3), 15), (standard_field(16), 7), (standard_field(64), 5)):
            found = cyclic_generators(field, length)
            self.assertEqual(found, sorted(found, key=lambda poly: (len(poly), poly[::-1])))
            self.assertEqual(len(found), len({tuple(poly) for poly in found}))
            for generator in found:
                self.assertEqual(CyclicCode(field, length, generator).generator, generator)

    def test_point_77_limits(self):
        for order, length in ((2, 25), (3, 15), (4, 13), (8, 9), (16, 7), (64, 5), (256, 3)):
            field = standard_field(order)
            self.assertEqual(cyclic_generators(field, length)[0], [1])
            for longer in (length + 1, length + 2, 255):
                with self.assertRaises(TooLarge):
                    cyclic_generators(field, longer)
            for wrong in (0, -1, -5, 256, 10 ** 4):
                with self.assertRaises(InvalidCode):
                    cyclic_generators(field, wrong)

    def test_points_74_and_77_every_cyclic_code(self):
        # The linear codes that every shift maps into themselves are the cyclic codes.
        found = {tuple(map(tuple, CyclicCode(TWO, 6, poly).linear().rows)) for poly in cyclic_generators(TWO, 6)}
        self.assertEqual(len(found), 9)
        for first, second in itertools.combinations(found, 2):
            self.assertNotEqual(first, second)
