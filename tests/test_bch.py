"""Points 84 to 87: minimal polynomials and BCH codes."""

import itertools
import random
import unittest

from nearestword.bch import BchCode, minimal_polynomial
from nearestword.cyclic import CyclicCode
from nearestword.distances import minimum_distance
from nearestword.errors import InvalidCode, InvalidWord, NotInCode, TooManyErrors
from nearestword.fields import Field, standard_field
from nearestword.polynomials import poly_divide, poly_evaluate
from tests.support import LARGE_FIELDS, SMALL_FIELDS, every_word, only_word_within, slow_plus, slow_times

FIELDS = SMALL_FIELDS + (
    standard_field(16), standard_field(27), standard_field(7), standard_field(49), Field(2, (1, 0, 0, 1, 1)), Field(31),
)


def some_codes(fields=FIELDS):
    for field in fields:
        for length in range(1, 16):
            if (field.order - 1) % length == 0:
                for distance in range(1, length + 1):
                    yield BchCode(field, length, distance)


def few_words(code, most):
    return code.base.order ** code.dimension <= most


def slow_minimal(field, element):
    """The first monic polynomial with coefficients below the prime that has the root."""
    for size in range(1, field.degree + 1):
        for word in itertools.product(range(field.prime), repeat=size):
            poly = list(word[::-1]) + [1]
            if poly_evaluate(field, poly, element) == 0:
                return poly
    return None


def slow_corrected(code, words, received):
    """The only word that is near enough, None if there is none."""
    return only_word_within(words, received, (code.distance - 1 - received.count(None)) // 2)


class MinimalPolynomialTest(unittest.TestCase):
    def test_point_84_minimal_polynomials(self):
        for field in FIELDS:
            for element in range(field.order):
                found = minimal_polynomial(field, element)
                self.assertEqual(found, slow_minimal(field, element))
                self.assertEqual(found[-1], 1)
                self.assertTrue(all(0 <= item < field.prime for item in found))

    def test_point_84_edges(self):
        for field in FIELDS + LARGE_FIELDS:
            p = field.prime
            self.assertEqual(minimal_polynomial(field, 0), [0, 1])
            for element in range(p):
                self.assertEqual(minimal_polynomial(field, element), [-element % p, 1])
            found = minimal_polynomial(field, field.primitive_element())
            self.assertEqual(len(found) - 1, field.degree)
            self.assertEqual(poly_evaluate(field, found, field.primitive_element()), 0)
            if field.degree > 1:
                # The element p has the digits of x, whose polynomial is the modulus.
                self.assertEqual(minimal_polynomial(field, p), list(field.modulus))


class BchCodeTest(unittest.TestCase):
    def test_point_85_parts(self):
        for code in some_codes():
            field, n, distance = code.field, code.length, code.distance
            self.assertEqual((code.base.prime, code.base.modulus), (field.prime, (0, 1)))
            root = 1
            for _ in range((field.order - 1) // n):
                root = slow_times(field, root, field.primitive_element())
            self.assertEqual(code.root, root)
            self.assertEqual(field.order_of(root), n)
            powers = [field.power(root, exponent) for exponent in range(1, distance)]
            generator = code.generator
            self.assertTrue(all(poly_evaluate(field, generator, power) == 0 for power in powers))
            minimal = {tuple(minimal_polynomial(field, power)) for power in powers}
            self.assertEqual(len(generator) - 1, sum(len(poly) - 1 for poly in minimal))
            self.assertTrue(all(poly_divide(code.base, generator, list(poly))[1] == [] for poly in minimal))
            self.assertTrue(generator[-1] == 1 and all(0 <= item < field.prime for item in generator))
            self.assertEqual(code.dimension, n - len(generator) + 1)
            self.assertGreaterEqual(code.dimension, 1)

    def test_point_85_is_the_cyclic_code(self):
        for code in some_codes():
            cyclic = CyclicCode(code.base, code.length, code.generator)
            self.assertEqual(code.linear().rows, cyclic.linear().rows)
            self.assertTrue(code.linear().field.same_as(code.base))
            source = random.Random(85)
            for _ in range(5):
                message = [source.randrange(code.base.order) for _ in range(code.dimension)]
                word = code.word_for(message)
                self.assertEqual(word, cyclic.word_for(message))
                self.assertTrue(code.contains(word))
                self.assertEqual(code.message_of(word), message)
                other = [source.randrange(code.base.order) for _ in range(code.length)]
                self.assertEqual(code.contains(other), cyclic.contains(other))

    def test_point_85_edges(self):
        for field in FIELDS + LARGE_FIELDS:
            one = BchCode(field, 1, 1)
            self.assertEqual((one.generator, one.dimension, one.root, one.distance), ([1], 1, 1, 1))
            self.assertEqual(one.corrected([field.prime - 1]), [field.prime - 1])
            with self.assertRaises(TooManyErrors):
                one.corrected([None])
        self.assertIs(BchCode(LARGE_FIELDS[1], 255, 3).field, LARGE_FIELDS[1])
        self.assertEqual(BchCode(standard_field(16), 15, 1).generator, [1])
        self.assertEqual(BchCode(standard_field(16), 15, 15).generator, [1] * 15)
        self.assertEqual(BchCode(standard_field(16), 15, 5).generator, [1, 0, 0, 0, 1, 0, 1, 1, 1])
        self.assertEqual(BchCode(standard_field(16), 15, 7).generator, [1, 1, 1, 0, 1, 1, 0, 0, 1, 0, 1])
        self.assertEqual(BchCode(standard_field(256), 255, 3).dimension, 247)
        self.assertEqual(BchCode(standard_field(256), 255, 255).dimension, 1)

    def test_point_85_wrong_codes(self):
        field = standard_field(16)
        for length, distance in (
            (0, 1), (0, 0), (-1, 1), (-15, 1), (2, 1), (4, 2), (7, 3), (16, 2), (30, 2), (255, 3), (256, 1), (15, 0), (15, -1),
            (15, 16), (5, 6), (1, 0), (1, 2), (10 ** 20, 1), (15, 10 ** 20),
        ):
            with self.assertRaises(InvalidCode):
                BchCode(field, length, distance)
        with self.assertRaises(InvalidCode):
            BchCode(Field(2), 2, 1)
        self.assertEqual(BchCode(Field(2), 1, 1).dimension, 1)
        self.assertEqual([BchCode(field, n, 1).length for n in (1, 3, 5, 15)], [1, 3, 5, 15])

    def test_point_86_distance(self):
        for code in some_codes():
            if few_words(code, 700):
                self.assertGreaterEqual(minimum_distance(code.linear()), code.distance)

    def test_point_86_syndromes(self):
        for code in some_codes():
            field = code.field
            source = random.Random(86)
            for _ in range(4):
                word = [source.randrange(field.prime) for _ in range(code.length)]
                expected = []
                for exponent in range(1, code.distance):
                    total, power = 0, 1
                    for item in word:
                        total = slow_plus(field, total, slow_times(field, item, power))
                        power = slow_times(field, power, field.power(code.root, exponent))
                    expected.append(total)
                self.assertEqual(code.syndromes(word), expected)
                self.assertEqual(not any(expected), code.contains(word))
            self.assertEqual(code.syndromes(code.word_for([1] * code.dimension)), [0] * (code.distance - 1))

    def test_point_86_mended(self):
        for code in some_codes():
            for s in range(code.length + 1):
                self.assertEqual(code.mended(s), (code.distance - 1 - s) // 2)
        self.assertEqual([BchCode(standard_field(8), 7, 3).mended(s) for s in (0, 1, 2, 3, 7)], [1, 0, 0, -1, -3])

    def check_received(self, code, words, received):
        expected = slow_corrected(code, words, received)
        if expected is None:
            with self.assertRaises(TooManyErrors):
                code.corrected(received)
        else:
            self.assertEqual(code.corrected(received), expected)

    def test_point_86_every_received_word(self):
        for order, length in ((4, 3), (5, 4), (5, 2), (25, 3), (16, 5), (9, 4)):
            field = standard_field(order)
            for distance in range(1, length + 1):
                code = BchCode(field, length, distance)
                words = code.linear().words()
                for received in map(list, itertools.product([None] + list(range(field.prime)), repeat=length)):
                    self.check_received(code, words, received)

    def test_point_86_random_received_words(self):
        source = random.Random(860)
        seen = set()
        for code in some_codes():
            if few_words(code, 300):
                words = code.linear().words()
                for _ in range(12):
                    received = source.choice(words)[:]
                    for at in source.sample(range(code.length), source.randrange(code.length + 1)):
                        received[at] = source.randrange(code.base.order)
                    for at in source.sample(range(code.length), source.randrange(code.length // 2 + 1)):
                        received[at] = None
                    self.check_received(code, words, received)
                    seen.add(slow_corrected(code, words, received) is None)
        self.assertEqual(seen, {True, False})

    def test_point_86_as_many_errors_as_are_mended_and_one_more(self):
        source = random.Random(861)
        for order, length, distance in ((256, 255, 21), (64, 63, 11), (27, 26, 8), (25, 24, 9), (31, 30, 12), (243, 121, 16)):
            field = standard_field(order)
            code = BchCode(field, length, distance)
            p = field.prime
            word = code.word_for([source.randrange(p) for _ in range(code.dimension)])
            for s in (0, 1, distance // 2, distance - 2, distance - 1):
                places = source.sample(range(length), length)
                most = code.mended(s)
                for errors in sorted({0, most}):
                    received = [None if at in places[:s] else item for at, item in enumerate(word)]
                    for at in places[s:s + errors]:
                        received[at] = (received[at] + source.randrange(1, p)) % p
                    self.assertEqual(code.corrected(received), word)
                received = [None if at in places[:s] else item for at, item in enumerate(word)]
                for at in places[s:s + most + 1]:
                    received[at] = (received[at] + 1) % p
                try:
                    other = code.corrected(received)
                except TooManyErrors:
                    continue
                self.assertNotEqual(other, word)
                self.assertTrue(code.contains(other))
                self.assertLessEqual(sum(1 for x, y in zip(other, received) if y is not None and x != y), most)
            with self.assertRaises(TooManyErrors):
                code.corrected([None] * distance + word[distance:])

    def test_point_86_words_over_the_larger_field_do_not_count(self):
        # The received words lie near a word over the field of order q, but near none over the field of order p.
        seen = 0
        for code in (BchCode(standard_field(9), 8, 4), BchCode(standard_field(8), 7, 4), BchCode(standard_field(16), 5, 3)):
            p, words = code.base.order, code.linear().words()
            wider = code.field.order ** (code.length - code.distance + 1)
            self.assertGreater(wider, len(words))
            source = random.Random(862)
            for _ in range(300):
                received = [source.choice([None] + list(range(p))) for _ in range(code.length)]
                self.check_received(code, words, received)
                limit = code.mended(received.count(None))
                seen += limit >= 0 and slow_corrected(code, words, received) is None
        self.assertGreater(seen, 20)

    def test_point_87_wrong_messages_and_words(self):
        for code in (BchCode(standard_field(9), 8, 4), BchCode(standard_field(16), 15, 7)):
            n, k, p = code.length, code.dimension, code.base.order
            for bad in ([], [0] * (k - 1), [0] * (k + 1), [None] + [0] * (k - 1), [-1] + [0] * (k - 1), [0] * (k - 1) + [p],
                        [10 ** 20] * k, [code.field.order - 1] * k):
                with self.assertRaises(InvalidWord):
                    code.word_for(bad)
            far = [1, 0, 1] + [0] * (n - 3)
            wrong = [[], far[1:], far + [0], [-1] + far[1:], far[:-1] + [p], far[:-1] + [code.field.order - 1],
                     [None] * (n - 1) + [p], [None] * (n + 1), [None] * (n - 1), [None] * (n - 1) + [-1]]
            for bad in wrong + [[None] + far[1:]]:
                for call in (code.contains, code.message_of, code.syndromes):
                    with self.assertRaises(InvalidWord):
                        call(bad)
            for bad in wrong:
                with self.assertRaises(InvalidWord):
                    code.corrected(bad)
            with self.assertRaises(NotInCode):
                code.message_of([1] + [0] * (n - 1))
            self.assertFalse(code.contains([1] + [0] * (n - 1)))
            with self.assertRaises(TooManyErrors):
                code.corrected([None] * n)

    def test_point_85_words_of_small_codes(self):
        for order, length, distance in ((8, 7, 3), (9, 8, 2), (4, 3, 2), (5, 4, 3)):
            code = BchCode(standard_field(order), length, distance)
            inside = [word for word in every_word(code.base, length) if code.contains(word)]
            self.assertEqual(inside, code.linear().words())
