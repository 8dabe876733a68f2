"""Points 60 to 63: checksums."""

import itertools
import random
import unittest

from nearestword.checksums import Checksum
from nearestword.distances import minimum_distance
from nearestword.errors import InvalidCode, InvalidWord
from nearestword.fields import Field
from nearestword.polynomials import poly_divide, poly_factors, poly_multiply, poly_trim

TWO = Field(2)
GREAT = [1, 0, 1, 1, 0, 1, 0, 0, 0, 0, 0, 0, 0, 0, 0, 0, 1]
GENERATORS = [
    [1, 1], [1, 0, 1], [1, 1, 1], [1, 1, 0, 1], [1, 0, 1, 1], [1, 1, 1, 1], [1, 0, 0, 0, 1], [1, 1, 0, 0, 0, 1],
    [1, 1, 1, 0, 0, 0, 0, 0, 1], [1, 0, 1, 1, 1, 0, 1, 1, 1], GREAT, [1] * 17, [1, 0, 0, 0, 0, 1, 0, 0, 0, 0, 0, 0, 1, 0, 0, 0, 1],
]


def bits_of(number, many):
    return [number >> place & 1 for place in reversed(range(many))]


def slow_remainder(generator, bits):
    poly = poly_trim((bits + [0] * (len(generator) - 1))[::-1])
    rest = poly_divide(TWO, poly, generator)[1]
    return (rest + [0] * (len(generator) - 1 - len(rest)))[::-1]


def slow_is_good(generator, bits):
    return poly_divide(TWO, poly_trim(bits[::-1]), generator)[1] == []


def some_bits(seed):
    source = random.Random(seed)
    for many in (0, 1, 2, 3, 7, 8, 9, 15, 16, 17, 40, 300, 1000):
        yield [0] * many
        yield [1] * many
        yield [source.randrange(2) for _ in range(many)]


class ChecksumTest(unittest.TestCase):
    def test_point_60_generators(self):
        for generator in GENERATORS:
            checksum = Checksum(generator)
            self.assertEqual((checksum.generator, checksum.degree), (generator, len(generator) - 1))

    def test_point_60_wrong_generators(self):
        for bad in (
            [], [1], [0], [1] * 18, [1] + [0] * 16 + [1], [0, 1], [1, 0], [1, 1, 0], [0, 1, 1], [1, 2, 1], [1, -1, 1],
            [1, 3, 1], [2, 1], [1, 2], [-1, 1], [1, -1], [0, 0], [1, 1, 1, 1, 0],
        ):
            with self.assertRaises(InvalidCode):
                Checksum(bad)

    def test_point_60_the_generator_is_copied(self):
        generator = [1, 1, 0, 1]
        checksum = Checksum(generator)
        generator[1] = 0
        checksum.generator[1] = 0
        self.assertEqual(checksum.generator, [1, 1, 0, 1])
        self.assertEqual(checksum.remainder([1]), [0, 1, 1])

    def test_point_61_remainder_sealed_and_good(self):
        for generator in GENERATORS:
            checksum = Checksum(generator)
            for bits in some_bits(61):
                rest = slow_remainder(generator, bits)
                self.assertEqual(checksum.remainder(bits), rest)
                self.assertEqual(checksum.sealed(bits), bits + rest)
                self.assertTrue(checksum.is_good(bits + rest))
                self.assertEqual(checksum.is_good(bits), slow_is_good(generator, bits))

    def test_point_61_small_lists(self):
        for generator in GENERATORS[:8]:
            checksum = Checksum(generator)
            for many in range(9):
                for bits in map(list, itertools.product((0, 1), repeat=many)):
                    self.assertEqual(checksum.is_good(bits), slow_is_good(generator, bits))
            bits = [1, 0, 1]
            good = [bits + end for end in map(list, itertools.product((0, 1), repeat=checksum.degree))]
            self.assertEqual([tried for tried in good if checksum.is_good(tried)], [checksum.sealed(bits)])

    def test_point_61_no_bits(self):
        for generator in GENERATORS:
            checksum = Checksum(generator)
            self.assertTrue(checksum.is_good([]))
            self.assertEqual(checksum.remainder([]), [0] * checksum.degree)
            self.assertEqual(checksum.sealed([]), [0] * checksum.degree)

    def test_point_62_bit_by_bit(self):
        for generator in GENERATORS:
            checksum = Checksum(generator)
            bits = random.Random(62).choices((0, 1), k=60)
            state = [0] * checksum.degree
            for many, bit in enumerate(bits, 1):
                state = checksum.advance(state, bit)
                self.assertEqual(state, checksum.remainder(bits[:many]))

    def test_point_62_any_state(self):
        for generator in GENERATORS[:8]:
            checksum = Checksum(generator)
            r = checksum.degree
            for many in range(r + 3):
                for bits in map(list, itertools.product((0, 1), repeat=many)):
                    for bit in (0, 1):
                        self.assertEqual(checksum.advance(checksum.remainder(bits), bit), checksum.remainder(bits + [bit]))

    def test_point_62_blocks(self):
        for generator in GENERATORS:
            checksum = Checksum(generator)
            for bits in some_bits(62):
                rest = checksum.remainder(bits)
                for width in range(1, 9):
                    self.assertEqual(checksum.remainder_by_blocks(bits, width), rest)

    def test_point_62_wrong_widths(self):
        checksum = Checksum([1, 1, 0, 1])
        for width in (0, -1, 9, 10 ** 30):
            with self.assertRaises(InvalidCode):
                checksum.remainder_by_blocks([1, 0], width)
            with self.assertRaises(InvalidWord):
                checksum.remainder_by_blocks([1, 2], width)

    def test_points_61_and_62_wrong_bits(self):
        checksum = Checksum([1, 1, 0, 1])
        for bad in ([2], [0, -1], [1, 1, None], [0, 0, 10 ** 20]):
            for call in (checksum.remainder, checksum.sealed, checksum.is_good):
                with self.assertRaises(InvalidWord):
                    call(bad)
            for width in (1, 8):
                with self.assertRaises(InvalidWord):
                    checksum.remainder_by_blocks(bad, width)

    def test_point_62_wrong_states(self):
        checksum = Checksum([1, 1, 0, 1])
        for state, bit in (
            ([], 0), ([0, 0], 0), ([0, 0, 0, 0], 1), ([0, 2, 0], 0), ([0, -1, 0], 0), ([0, None, 0], 1), ([0, 0, 0], 2),
            ([0, 0, 0], -1),
        ):
            with self.assertRaises(InvalidWord):
                checksum.advance(state, bit)
        self.assertEqual(Checksum([1, 1]).advance([1], 1), [0])

    def test_point_63_period(self):
        for generator in GENERATORS:
            power, period = [0, 1], 1
            rest = poly_divide(TWO, power, generator)[1]
            while rest != [1]:
                rest = poly_divide(TWO, [0] + rest, generator)[1]
                period += 1
                if period > 300:
                    break
            if period <= 300:
                self.assertEqual(Checksum(generator).period(), period)
        self.assertEqual(Checksum([1, 1]).period(), 1)
        self.assertEqual(Checksum([1, 0, 1]).period(), 2)
        self.assertEqual(Checksum([1, 1, 1]).period(), 3)
        self.assertEqual(Checksum(GREAT).period(), 2 ** 16 - 1)
        # Both factors of a product, and both squares.
        product = poly_multiply(TWO, [1, 1, 1], [1, 1, 0, 1])
        self.assertEqual(Checksum(product).period(), 21)
        self.assertEqual(Checksum(poly_multiply(TWO, product, product)).period(), 42)
        self.assertEqual(Checksum([1] + [0] * 15 + [1]).period(), 16)

    def test_point_63_two_bits(self):
        for generator in GENERATORS:
            checksum = Checksum(generator)
            period = checksum.period()
            for apart in {1, 2, 3, period - 1, period, period + 1, 2 * period} - {0}:
                if apart < 998:
                    good = checksum.is_good([0] + [1] + [0] * (apart - 1) + [1])
                    self.assertEqual(good, apart % period == 0)

    def test_point_63_bursts(self):
        for generator in GENERATORS[:10]:
            checksum = Checksum(generator)
            r = checksum.degree
            sealed = checksum.sealed([1, 0, 1, 1, 0, 0, 1])
            for length in range(1, r + 2):
                for inner in map(list, itertools.product((0, 1), repeat=max(0, length - 2))):
                    burst = [1] + inner + [1] if length > 1 else [1]
                    for before in (0, len(sealed) - length):
                        added = [0] * before + burst + [0] * (len(sealed) - before - length)
                        good = checksum.is_good(added)
                        self.assertEqual(good, length == r + 1 and burst == generator[::-1])
                        self.assertEqual(checksum.is_good([x ^ y for x, y in zip(sealed, added)]), good)

    def test_point_63_finds_odd(self):
        for generator in GENERATORS:
            checksum = Checksum(generator)
            self.assertEqual(checksum.finds_odd(), generator.count(1) % 2 == 0)
            if checksum.finds_odd():
                self.assertIn([1, 1], [factor for factor, _ in poly_factors(TWO, generator)])
                for bits in some_bits(63):
                    self.assertEqual(sum(checksum.sealed(bits)) % 2, 0)

    def test_points_61_and_63_linear(self):
        for generator in GENERATORS[:8]:
            checksum = Checksum(generator)
            r = checksum.degree
            for length in (r + 1, r + 2, 9):
                code = checksum.linear(length)
                good = [bits for bits in map(list, itertools.product((0, 1), repeat=length)) if checksum.is_good(bits)]
                self.assertEqual(code.words(), good)
                self.assertTrue(code.field.same_as(TWO))

    def test_point_63_linear_limits(self):
        for generator in ([1, 1], GREAT):
            checksum = Checksum(generator)
            r = checksum.degree
            self.assertEqual(checksum.linear(r + 1).rows, [generator[::-1]])
            self.assertEqual((checksum.linear(255).length, checksum.linear(255).dimension), (255, 255 - r))
            for length in (r, r - 1, 0, -1, 256, 10 ** 20):
                with self.assertRaises(InvalidCode):
                    checksum.linear(length)
        self.assertEqual(minimum_distance(Checksum([1, 1]).linear(12)), 2)
