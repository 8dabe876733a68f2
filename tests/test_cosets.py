"""Points 58 and 59: cosets, leaders, the covering radius and deep holes."""

import unittest

from nearestword.cosets import coset_of, covering_radius, deep_holes, leader_weights, leaders
from nearestword.distances import errors_mended
from nearestword.enumerators import outer_distance
from nearestword.errors import InvalidWord, TooLarge
from nearestword.families import hamming_code, parity_code, repetition_code, whole_code, zero_code
from nearestword.fields import Field, standard_field
from nearestword.linear import LinearCode, code_from_checks
from tests.support import SMALL_FIELDS, every_word, random_rows, slow_plus, weight


def some_codes():
    """Codes whose length has at most 800 words."""
    for field in SMALL_FIELDS:
        for length in range(1, 9):
            if field.order ** length > 800:
                break
            yield zero_code(field, length)
            yield whole_code(field, length)
            yield repetition_code(field, length)
            for many in range(1, length):
                yield LinearCode(field, length, random_rows(580 + many, field, many, length))
                yield LinearCode(field, length, [[0] + row[1:] for row in random_rows(590 + many, field, many, length)])


def slow_leaders(code):
    by_syndrome = {}
    for word in every_word(code.field, code.length):
        by_syndrome.setdefault(tuple(code.syndrome(word)), []).append(word)
    found = []
    for syndrome in sorted(by_syndrome):
        least = min(weight(word) for word in by_syndrome[syndrome])
        found.append((syndrome, [word for word in by_syndrome[syndrome] if weight(word) == least]))
    return found


def slow_distance(code, word):
    return min(sum(1 for x, y in zip(word, other) if x != y) for other in code.words())


class LeadersTest(unittest.TestCase):
    def test_point_58_leaders(self):
        for code in some_codes():
            found = leaders(code)
            self.assertEqual(found, slow_leaders(code))
            self.assertEqual(len(found), code.field.order ** (code.length - code.dimension))
            for syndrome, words in found:
                self.assertIsInstance(syndrome, tuple)
                self.assertIsInstance(words, list)
        self.assertIsInstance(found[0], tuple)

    def test_point_58_edges(self):
        field = Field(3)
        self.assertEqual(leaders(whole_code(field, 2)), [((), [[0, 0]])])
        every = leaders(zero_code(field, 2))
        self.assertEqual(every, [(tuple(word), [word]) for word in every_word(field, 2)])
        self.assertEqual(leaders(repetition_code(Field(2), 2)), [((0,), [[0, 0]]), ((1,), [[0, 1], [1, 0]])])

    def test_point_58_cosets(self):
        for code in some_codes():
            by_syndrome = {}
            for word in every_word(code.field, code.length):
                by_syndrome.setdefault(tuple(code.syndrome(word)), []).append(word)
            for words in list(by_syndrome.values())[:20]:
                self.assertEqual(coset_of(code, words[-1]), words)
                sums = sorted([slow_plus(code.field, x, y) for x, y in zip(words[0], w)] for w in code.words())
                self.assertEqual(coset_of(code, words[0]), sums)

    def test_point_58_wrong_words(self):
        code = repetition_code(Field(3), 3)
        large = whole_code(standard_field(256), 3)
        for bad in ([0, 0], [0] * 4, [], [0, None, 0], [0, -1, 0], [0, 0, 256], [0, 0, 300]):
            for tried in (code, large):
                with self.assertRaises(InvalidWord):
                    coset_of(tried, bad)
        for bad in ([0, 3, 0], [4, 0, 0]):
            with self.assertRaises(InvalidWord):
                coset_of(code, bad)
        with self.assertRaises(TooLarge):
            coset_of(large, [0, 0, 0])

    def test_points_58_and_59_limits(self):
        two = Field(2)
        self.assertEqual(len(coset_of(whole_code(two, 12), [1] * 12)), 4096)
        self.assertEqual(len(coset_of(repetition_code(standard_field(256), 255), [1] * 255)), 256)
        with self.assertRaises(TooLarge):
            coset_of(whole_code(two, 13), [1] * 13)
        for order, length in ((2, 12), (16, 3), (64, 2)):
            field = standard_field(order)
            self.assertEqual(sum(len(words) for _, words in leaders(parity_code(field, length))), 1 + length * (order - 1))
            self.assertEqual(len(deep_holes(parity_code(field, length))), order ** length - order ** (length - 1))
            self.assertEqual(leader_weights(zero_code(field, length))[0], 1)
            self.assertEqual(covering_radius(zero_code(field, length)), length)
            for compute in (leaders, deep_holes):
                with self.assertRaises(TooLarge):
                    compute(zero_code(field, length + 1))
                with self.assertRaises(TooLarge):
                    compute(whole_code(field, length + 1))
            for compute in (leader_weights, covering_radius):
                with self.assertRaises(TooLarge):
                    compute(zero_code(field, length + 1))
        for compute in (leaders, deep_holes, leader_weights, covering_radius):
            with self.assertRaises(TooLarge):
                compute(zero_code(standard_field(256), 255))


class CoveringTest(unittest.TestCase):
    def test_point_59_weights_and_radius(self):
        for code in some_codes():
            weights = [weight(words[0]) for _, words in slow_leaders(code)]
            radius = max(weights)
            self.assertEqual(leader_weights(code), [weights.count(w) for w in range(radius + 1)])
            self.assertEqual(covering_radius(code), radius)

    def test_point_59_deep_holes(self):
        for code in some_codes():
            if code.size <= 30:
                distances = {tuple(word): slow_distance(code, word) for word in every_word(code.field, code.length)}
                radius = max(distances.values())
                self.assertEqual(covering_radius(code), radius)
                self.assertEqual(deep_holes(code), [list(word) for word in sorted(distances) if distances[word] == radius])

    def test_point_59_edges(self):
        field = Field(3)
        self.assertEqual(leader_weights(whole_code(field, 2)), [1])
        self.assertEqual(deep_holes(whole_code(field, 2)), every_word(field, 2))
        self.assertEqual(leader_weights(zero_code(field, 3)), [1, 6, 12, 8])
        self.assertEqual(deep_holes(zero_code(Field(2), 3)), [[1, 1, 1]])
        self.assertEqual(leader_weights(repetition_code(Field(2), 5)), [1, 5, 10])

    def test_point_59_bounds_of_the_radius(self):
        for code in some_codes():
            radius = covering_radius(code)
            self.assertLessEqual(radius, code.length - code.dimension)
            self.assertLessEqual(radius, outer_distance(code))
            self.assertGreaterEqual(radius, errors_mended(code) if code.dimension > 0 else code.length)

    def test_point_59_codes_of_any_size(self):
        self.assertEqual(leader_weights(hamming_code(Field(2), 7)), [1, 127])
        self.assertEqual(leader_weights(hamming_code(standard_field(64), 2)), [1, 4095])
        self.assertEqual(leader_weights(whole_code(standard_field(256), 255)), [1])
        self.assertEqual(leader_weights(parity_code(standard_field(256), 255)), [1, 255])
        # Columns that span only small spaces have leaders of many positions.
        checks = [[1 if at % 12 == row else 0 for at in range(255)] for row in range(12)]
        code = code_from_checks(Field(2), 255, checks)
        self.assertEqual(leader_weights(code), [1, 12, 66, 220, 495, 792, 924, 792, 495, 220, 66, 12, 1])
        four = standard_field(4)
        checks = [[1 if at % 6 == row else 0 for at in range(255)] for row in range(6)]
        self.assertEqual(leader_weights(code_from_checks(four, 255, checks)), [1, 18, 135, 540, 1215, 1458, 729])
