"""Points 34 to 39: codes that are made from other codes."""

import itertools
import unittest

from nearestword.changes import (
    doubled, dual, extended, joined, meeting, permuted, punctured, shortened, span_of,
)
from nearestword.errors import InvalidCode
from nearestword.families import parity_code, repetition_code, whole_code, zero_code
from nearestword.fields import Field, standard_field
from nearestword.linear import LinearCode
from tests.support import SMALL_FIELDS, combinations_of, random_rows, slow_dot, slow_plus, words_with_checks


def some_codes(field, length=4):
    rows = random_rows(34, field, 3, length)
    return [
        zero_code(field, length), whole_code(field, length), LinearCode(field, length, rows[:1]),
        LinearCode(field, length, rows[:2]), LinearCode(field, length, [[0] + rows[2][1:]]),
        repetition_code(field, length), parity_code(field, length),
    ]


def removed(words, positions):
    kept = [[item for at, item in enumerate(word) if at not in positions] for word in words]
    return sorted([list(word) for word in {tuple(word) for word in kept}])


class DualTest(unittest.TestCase):
    def test_point_34_words(self):
        for field in SMALL_FIELDS[:4]:
            for code in some_codes(field):
                opposite = dual(code)
                if field.order < 5:
                    self.assertEqual(opposite.words(), words_with_checks(field, code.words(), 4))
                self.assertEqual(opposite.dimension, 4 - code.dimension)
                self.assertTrue(all(slow_dot(field, a, b) == 0 for a in code.rows for b in opposite.rows))
                self.assertTrue(dual(opposite).same_as(code))

    def test_point_34_great_code(self):
        code = repetition_code(standard_field(256), 255)
        self.assertTrue(dual(code).same_as(parity_code(standard_field(256), 255)))


class RemovingTest(unittest.TestCase):
    def test_point_35_all_lists_of_positions(self):
        for field in SMALL_FIELDS[:3]:
            for code in some_codes(field):
                words = code.words()
                for many in range(4):
                    for positions in itertools.permutations(range(4), many):
                        positions = list(positions)
                        zeros = [word for word in words if all(word[at] == 0 for at in positions)]
                        short, shorter = shortened(code, positions), punctured(code, positions)
                        self.assertEqual(short.words(), removed(zeros, positions))
                        self.assertEqual(shorter.words(), removed(words, positions))
                        self.assertEqual((short.length, shorter.length), (4 - many, 4 - many))

    def test_point_35_duality(self):
        for field in SMALL_FIELDS:
            for code in some_codes(field, 5):
                for positions in ([], [3], [4, 0], [1, 2, 3], [0, 1, 2, 4]):
                    self.assertTrue(dual(shortened(code, positions)).same_as(punctured(dual(code), positions)))

    def test_point_35_wrong_positions(self):
        code = parity_code(Field(2), 3)
        for positions in ([3], [-1], [0, 3], [1, 1], [0, 2, 0], [0, 1, 2], [2, 1, 0], [0, 1, 2, 0], [1000]):
            for change in (shortened, punctured):
                with self.assertRaises(InvalidCode):
                    change(code, positions)
        single = whole_code(Field(2), 1)
        for change in (shortened, punctured):
            self.assertTrue(change(single, []).same_as(single))
            with self.assertRaises(InvalidCode):
                change(single, [0])


class ExtendedTest(unittest.TestCase):
    def test_point_36_words(self):
        for field in SMALL_FIELDS[:4]:
            for code in some_codes(field):
                longer = extended(code)
                expected = []
                for word in code.words():
                    total = 0
                    for item in word:
                        total = slow_plus(field, total, item)
                    expected.append(word + [field.negative(total)])
                self.assertEqual(longer.words(), sorted(expected))
                self.assertEqual((longer.length, longer.dimension), (5, code.dimension))

    def test_point_36_greatest_length(self):
        field = Field(3)
        longer = extended(repetition_code(field, 254))
        self.assertEqual((longer.length, longer.rows), (255, [[1] * 254 + [1]]))
        self.assertEqual(extended(repetition_code(field, 4)).rows, [[1, 1, 1, 1, 2]])
        with self.assertRaises(InvalidCode):
            extended(repetition_code(field, 255))
        with self.assertRaises(InvalidCode):
            extended(longer)


class TwoCodesTest(unittest.TestCase):
    def test_point_37_words(self):
        for field in SMALL_FIELDS[:2]:
            for first, second in itertools.product(some_codes(field, 3), repeat=2):
                ones, others = first.words(), second.words()
                pairs = list(itertools.product(ones, others))
                sums = [[slow_plus(field, x, y) for x, y in zip(u, v)] for u, v in pairs]
                self.assertEqual(joined(first, second).words(), [u + v for u, v in pairs])
                self.assertEqual(
                    doubled(first, second).words(), sorted([u + total for (u, _), total in zip(pairs, sums)])
                )
                self.assertEqual(span_of(first, second).words(), combinations_of(field, first.rows + second.rows, 3))
                self.assertEqual(removed(sums, []), span_of(first, second).words())
                self.assertEqual(meeting(first, second).words(), [word for word in ones if word in others])

    def test_point_37_different_lengths(self):
        first, second = parity_code(Field(2), 2), parity_code(Field(2), 3)
        self.assertEqual(joined(first, second).rows, [[1, 1, 0, 0, 0], [0, 0, 1, 0, 1], [0, 0, 0, 1, 1]])
        # Codes without rows or without checks are refused, too.
        pairs = [(first, second)] + [(family(Field(2), 2), family(Field(2), 3)) for family in (zero_code, whole_code)]
        for make in (doubled, span_of, meeting):
            for shorter, longer in pairs:
                with self.assertRaises(InvalidCode):
                    make(shorter, longer)
                with self.assertRaises(InvalidCode):
                    make(longer, shorter)

    def test_point_37_greatest_lengths(self):
        field = Field(2)
        code = joined(repetition_code(field, 200), repetition_code(field, 55))
        self.assertEqual((code.length, code.dimension), (255, 2))
        with self.assertRaises(InvalidCode):
            joined(repetition_code(field, 200), repetition_code(field, 56))
        code = doubled(repetition_code(field, 127), zero_code(field, 127))
        self.assertEqual(code.rows, [[1] * 254])
        with self.assertRaises(InvalidCode):
            doubled(repetition_code(field, 128), zero_code(field, 128))
        self.assertEqual(span_of(parity_code(field, 255), repetition_code(field, 255)).dimension, 255)
        self.assertEqual(meeting(parity_code(field, 255), repetition_code(field, 255)).dimension, 0)

    def test_point_39_unlike_fields(self):
        one, other = Field(2, (1, 1, 0, 1)), Field(2, (1, 0, 1, 1))
        for make in (joined, doubled, span_of, meeting):
            for first, second in ((one, other), (Field(3), Field(3, (1, 1))), (Field(2), Field(3))):
                with self.assertRaises(InvalidCode):
                    make(repetition_code(first, 3), repetition_code(second, 3))

    def test_point_39_fields_that_are_the_same(self):
        one, other = Field(2, (1, 1, 0, 1)), Field(2, (1, 1, 0, 1))
        for make in (joined, doubled, span_of, meeting):
            code = make(repetition_code(one, 3), parity_code(other, 3))
            self.assertIs(code.field, one)
            self.assertIsInstance(code, LinearCode)

    def test_point_39_one_code(self):
        field = Field(5, (2, 1))
        code = LinearCode(field, 3, [[1, 2, 3]])
        for made in (
            dual(code), shortened(code, []), punctured(code, []), extended(code), permuted(code, [0, 1, 2]),
        ):
            self.assertIsInstance(made, LinearCode)
            self.assertIsNot(made, code)
            self.assertIs(made.field, field)


class PermutedTest(unittest.TestCase):
    def test_point_38_words(self):
        for field in SMALL_FIELDS[:3]:
            for code in some_codes(field):
                for order in itertools.permutations(range(4)):
                    expected = sorted([[word[at] for at in order] for word in code.words()])
                    self.assertEqual(permuted(code, list(order)).words(), expected)

    def test_point_38_wrong_orders(self):
        code = parity_code(Field(2), 3)
        for order in ([], [0, 1], [0, 1, 1], [0, 1, 3], [-1, 0, 1], [0, 1, 2, 3], [0, 1, 2, 0], [1, 2, 3]):
            with self.assertRaises(InvalidCode):
                permuted(code, order)
