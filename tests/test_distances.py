"""Points 40 to 46: distances and certificates."""

import itertools
import unittest

from nearestword.changes import extended, shortened
from nearestword.distances import (
    check_distance, distance_by_columns, distance_certificate, erasures_mended, errors_found, errors_mended,
    information_sets, lightest_words, minimum_distance, residual,
)
from nearestword.errors import InvalidCode, InvalidWord, NotInCode, TooLarge
from nearestword.families import (
    hamming_code, parity_code, reed_muller_code, repetition_code, simplex_code, whole_code, zero_code,
)
from nearestword.fields import Field, standard_field
from nearestword.linear import LinearCode, code_from_checks
from tests.support import SMALL_FIELDS, every_word, random_rows, weight


def some_codes(field):
    """Codes with few words, also with positions that are always 0 and with equal columns."""
    found = [zero_code(field, 4), repetition_code(field, 5), parity_code(field, 3), whole_code(field, 2)]
    for seed, (many, length) in enumerate(((1, 4), (2, 4), (2, 5), (2, 6), (3, 6))):
        if field.order ** many <= 1000:
            rows = random_rows(40 + seed, field, many, length)
            found.append(LinearCode(field, length, rows))
            found.append(LinearCode(field, length + 1, [[0] + row for row in rows]))
            found.append(LinearCode(field, length + 1, [row + row[:1] for row in rows]))
            found.append(LinearCode(field, 2 * length, [row + row for row in rows]))
    return found


def is_information_set(code, positions):
    zeros = [word for word in code.words() if all(word[at] == 0 for at in positions)]
    return len(positions) == code.dimension and len(zeros) == 1


def slow_information_sets(code):
    found, used = [], []
    words = code.words()
    while code.dimension > 0:
        chosen = []
        for at in range(code.length):
            if at in used or len(chosen) == code.dimension:
                continue
            if any(word[at] != 0 and all(word[before] == 0 for before in chosen) for word in words):
                chosen.append(at)
        if len(chosen) < code.dimension:
            break
        found.append(chosen)
        used += chosen
    return found


def seen_words(code, sets, level):
    return [
        word for word in code.words()[1:]
        if any(sum(1 for at in chosen if word[at] != 0) <= level for chosen in sets)
    ]


def slow_certificate(code):
    if code.dimension == 0:
        return None
    sets = slow_information_sets(code)
    level = 1
    while True:
        seen = seen_words(code, sets, level)
        least = min(weight(word) for word in seen)
        if level == code.dimension or len(sets) * (level + 1) >= least:
            return (next(word for word in seen if weight(word) == least), sets, level)
        level += 1


def slow_check(code, distance, certificate):
    word, sets, level = certificate
    if code.dimension == 0 or word not in code.words() or weight(word) != distance or distance < 1:
        return False
    positions = [at for chosen in sets for at in chosen]
    if not sets or len(set(positions)) != len(positions) or not set(positions) <= set(range(code.length)):
        return False
    if not all(is_information_set(code, chosen) for chosen in sets) or not 1 <= level <= code.dimension:
        return False
    if any(weight(other) < distance for other in seen_words(code, sets, level)):
        return False
    return level == code.dimension or len(sets) * (level + 1) >= distance


class MinimumDistanceTest(unittest.TestCase):
    def test_point_40_distance_and_lightest_words(self):
        for field in SMALL_FIELDS:
            for code in some_codes(field):
                weights = [weight(word) for word in code.words()[1:]]
                least = min(weights) if weights else None
                self.assertEqual(minimum_distance(code), least)
                self.assertEqual(lightest_words(code), [w for w in code.words()[1:] if weight(w) == least])

    def test_point_40_dimension_0(self):
        self.assertIsNone(minimum_distance(zero_code(Field(3), 9)))
        self.assertEqual(lightest_words(zero_code(Field(3), 9)), [])

    def test_point_40_limit(self):
        for order, dimension in ((2, 12), (16, 3), (64, 2)):
            field = standard_field(order)
            self.assertEqual(minimum_distance(whole_code(field, dimension)), 1)
            self.assertEqual(len(lightest_words(whole_code(field, dimension))), dimension * (order - 1))
            self.assertEqual(errors_found(whole_code(field, dimension)), 0)
            for compute in (minimum_distance, lightest_words, errors_mended, errors_found, erasures_mended):
                with self.assertRaises(TooLarge):
                    compute(whole_code(field, dimension + 1))

    def test_point_41_by_columns(self):
        for field in SMALL_FIELDS:
            for code in some_codes(field):
                self.assertEqual(distance_by_columns(code), minimum_distance(code))

    def test_point_41_edges(self):
        self.assertIsNone(distance_by_columns(zero_code(Field(2), 255)))
        self.assertEqual(distance_by_columns(whole_code(Field(2), 255)), 1)
        self.assertEqual(distance_by_columns(parity_code(Field(2), 255)), 2)
        self.assertEqual(distance_by_columns(hamming_code(standard_field(64), 2)), 3)

    def test_point_41_limit(self):
        field = Field(2)
        # 1 + 90 + 4005 sets are let.
        columns = random_rows(41, standard_field(256), 1, 90)[0]
        checks = [[1] * 90, [item & 1 for item in columns]]
        self.assertEqual(distance_by_columns(code_from_checks(field, 90, checks)), 2)
        with self.assertRaises(TooLarge):
            distance_by_columns(code_from_checks(field, 91, [row + [0] for row in checks]))
        # Sets of at most 6 of 13 positions are half of all sets.
        code = LinearCode(field, 13, [[1] * 13] + [[1 if i == j else 0 for j in range(13)] for i in range(6)])
        self.assertEqual((code.dimension, distance_by_columns(code)), (7, 1))
        code = LinearCode(field, 13, code.rows[1:])
        self.assertEqual(code.dimension, 6)
        with self.assertRaises(TooLarge):
            distance_by_columns(code)

    def test_point_42_three_numbers(self):
        for field in SMALL_FIELDS:
            for code in some_codes(field):
                distance = minimum_distance(code)
                numbers = (errors_mended(code), errors_found(code), erasures_mended(code))
                if distance is None:
                    self.assertEqual(numbers, (code.length,) * 3)
                else:
                    self.assertEqual(numbers, ((distance - 1) // 2, distance - 1, distance - 1))

    def test_point_42_what_the_numbers_mean(self):
        field = Field(3)
        for code in (repetition_code(field, 4), parity_code(field, 3), LinearCode(field, 4, [[1, 1, 0, 2]])):
            words = code.words()
            received = every_word(field, code.length)
            radii = [
                t for t in range(code.length + 1)
                if all(sum(1 for w in words if sum(x != y for x, y in zip(w, r)) <= t) <= 1 for r in received)
            ]
            self.assertEqual(errors_mended(code), max(radii))


class InformationSetsTest(unittest.TestCase):
    def test_point_43_sets(self):
        for field in SMALL_FIELDS:
            for code in some_codes(field):
                sets = information_sets(code)
                self.assertEqual(sets, slow_information_sets(code))
                if code.dimension:
                    self.assertEqual(sets[0], code.pivots)
                    self.assertTrue(all(is_information_set(code, chosen) for chosen in sets))

    def test_point_43_edges(self):
        field = Field(3)
        self.assertEqual(information_sets(zero_code(field, 4)), [])
        # All positions are used up.
        self.assertEqual(information_sets(repetition_code(field, 255)), [[at] for at in range(255)])
        self.assertEqual(information_sets(whole_code(field, 3)), [[0, 1, 2]])
        # A set is dropped, because positions are left that do not suffice.
        self.assertEqual(information_sets(parity_code(field, 4)), [[0, 1, 2]])
        self.assertEqual(information_sets(LinearCode(field, 4, [[1, 0, 1, 1], [0, 1, 2, 2]])), [[0, 1]])
        # A position is left out of a set, although it belongs to none before.
        code = LinearCode(field, 5, [[1, 0, 1, 1, 0], [0, 1, 1, 1, 1]])
        self.assertEqual(information_sets(code), [[0, 1], [2, 4]])
        self.assertEqual(information_sets(LinearCode(field, 3, [[0, 1, 0]])), [[1]])


class CertificateTest(unittest.TestCase):
    def test_point_45_certificates(self):
        for field in SMALL_FIELDS:
            for code in some_codes(field):
                certificate = distance_certificate(code)
                self.assertEqual(certificate, slow_certificate(code))
                if certificate is not None:
                    self.assertIsInstance(certificate, tuple)
                    self.assertEqual(weight(certificate[0]), minimum_distance(code))
                    self.assertIs(check_distance(code, minimum_distance(code), certificate), True)

    def test_point_45_higher_levels(self):
        generator = [1, 1, 0, 0, 0, 1, 1, 1, 0, 1, 0, 1]
        golay = extended(LinearCode(Field(2), 23, [[0] * at + generator + [0] * (11 - at) for at in range(12)]))
        for code, level in (
            (simplex_code(Field(2), 4), 2), (reed_muller_code(1, 4), 3), (simplex_code(Field(3), 3), 2),
            (simplex_code(Field(2), 5), 3), (golay, 3),
        ):
            certificate = distance_certificate(code)
            self.assertEqual(certificate, slow_certificate(code))
            self.assertEqual(certificate[2], level)
            self.assertTrue(check_distance(code, weight(certificate[0]), certificate))

    def test_point_45_great_codes(self):
        certificate = distance_certificate(self.shortened_hamming(60))
        self.assertEqual((weight(certificate[0]), len(certificate[1]), certificate[2]), (3, 1, 2))
        large = LinearCode(standard_field(16), 255, [[1 if i in (j, 254) else 0 for i in range(255)] for j in range(254)])
        certificate = distance_certificate(large)
        self.assertEqual((weight(certificate[0]), certificate[2]), (2, 1))
        self.assertTrue(check_distance(large, 2, certificate))

    def shortened_hamming(self, dimension):
        code = shortened(hamming_code(Field(2), 7), list(range(120 - dimension)))
        self.assertEqual((code.length, code.dimension), (dimension + 7, dimension))
        return code

    def test_point_45_limit_of_a_level(self):
        # Level 2 is needed; 1 + 90 + 4005 messages are let.
        code = self.shortened_hamming(90)
        certificate = distance_certificate(code)
        self.assertEqual(certificate[2], 2)
        self.assertEqual(weight(certificate[0]), 3)
        self.assertTrue(check_distance(code, 3, certificate))
        code = self.shortened_hamming(91)
        with self.assertRaises(TooLarge):
            distance_certificate(code)
        word = next(row for row in code.rows if weight(row) == 3)
        with self.assertRaises(TooLarge):
            check_distance(code, 3, (word, [code.pivots], 2))

    def test_point_45_limit_of_level_1(self):
        field = standard_field(64)
        self.assertEqual(distance_certificate(whole_code(field, 65))[2], 1)
        with self.assertRaises(TooLarge):
            distance_certificate(whole_code(field, 66))

    def test_point_45_dimension_0(self):
        self.assertIsNone(distance_certificate(zero_code(Field(2), 5)))
        for certificate in (([0] * 5, [], 1), ([0] * 5, [[]], 0), ([1] * 5, [[0]], 1), ([], [[]], 1)):
            for distance in (0, 1, 5):
                self.assertIs(check_distance(zero_code(Field(2), 5), distance, certificate), False)

    def test_point_44_each_condition_by_itself(self):
        code = LinearCode(Field(5), 4, [[1, 0, 2, 4], [0, 1, 3, 3]])
        good = ([0, 1, 3, 3], [[0, 1], [2, 3]], 1)
        self.assertIs(check_distance(code, 3, good), True)
        self.assertIs(check_distance(code, 3, ([0, 4, 2, 2], [[3, 2], [1, 0]], 2)), True)
        self.assertIs(check_distance(code, 3, ([0, 1, 3, 3], [[1, 3]], 2)), True)
        word, sets, level = good
        wrong = [
            # 1: not in the code, no word at all, another weight, the zero word.
            (3, ([0, 1, 3, 2], sets, level)), (3, ([], sets, level)), (3, ([0, 1, 3], sets, level)),
            (3, ([0, 1, 3, 3, 0], sets, level)), (3, ([0, 6, 3, 3], sets, level)), (3, ([0, -4, 3, 3], sets, level)),
            (4, good), (2, good), (0, ([0, 0, 0, 0], sets, level)), (-1, good),
            # 2: no set, no information sets, common positions.
            (3, (word, [], 2)), (3, (word, [[]], 2)), (3, (word, [[0]], 2)), (3, (word, [[0, 1, 2]], 2)),
            (3, (word, [[0, 0]], 2)), (3, (word, [[0, 4]], 2)), (3, (word, [[-1, 0]], 2)),
            (3, (word, [[0, 1], [1, 2]], 2)), (3, (word, [[0, 1], [0, 1]], 2)), (3, (word, sets + [[]], 1)),
            # 3: the level.
            (3, (word, sets, 0)), (3, (word, sets, 3)), (3, (word, sets, -1)),
            # 5: too few sets for the level.
            (3, (word, sets[:1], 1)),
        ]
        for distance, certificate in wrong:
            self.assertIs(check_distance(code, distance, certificate), False)

    def test_point_44_dependent_positions(self):
        code = LinearCode(Field(2), 4, [[1, 1, 0, 0], [0, 0, 1, 1]])
        self.assertTrue(check_distance(code, 2, ([1, 1, 0, 0], [[0, 2], [3, 1]], 1)))
        self.assertFalse(check_distance(code, 2, ([1, 1, 0, 0], [[0, 1], [2, 3]], 1)))
        self.assertFalse(check_distance(code, 2, ([1, 1, 0, 0], [[0, 1]], 2)))

    def test_point_44_a_lighter_word_is_seen(self):
        code = LinearCode(Field(2), 5, [[1, 0, 0, 0, 1], [0, 1, 1, 1, 1]])
        self.assertFalse(check_distance(code, 4, ([0, 1, 1, 1, 1], [[0, 1]], 2)))
        self.assertTrue(check_distance(code, 2, ([1, 0, 0, 0, 1], [[0, 1]], 2)))
        # Only the second set sees the lighter word at this level.
        code = LinearCode(Field(2), 8, [[1, 0, 1, 1, 0, 0, 1, 1], [0, 1, 1, 0, 0, 0, 0, 0]])
        for distance, certificate in itertools.product(
            range(7), [(row, [[0, 1], [2, 3]], 1) for row in code.words()]
        ):
            self.assertIs(check_distance(code, distance, certificate), slow_check(code, distance, certificate))

    def test_point_44_many_certificates(self):
        for field in SMALL_FIELDS[:3]:
            for code in some_codes(field):
                if code.length > 6:
                    continue
                sets = [list(chosen) for chosen in itertools.permutations(range(code.length), code.dimension)][:8]
                for word in code.words()[:9]:
                    for level, one, other in itertools.product(range(4), sets[:4], sets[4:]):
                        for certificate in ((word, [one], level), (word, [one, other], level)):
                            expected = slow_check(code, weight(word), certificate)
                            self.assertIs(check_distance(code, weight(word), certificate), expected)

    def test_point_45_limit_while_checking(self):
        field = Field(2)
        unit = [1] + [0] * 90
        self.assertTrue(check_distance(whole_code(field, 90), 1, (unit[:90], [list(range(90))], 2)))
        with self.assertRaises(TooLarge):
            check_distance(whole_code(field, 91), 1, (unit, [list(range(91))], 2))
        # The other conditions come before it.
        self.assertFalse(check_distance(whole_code(field, 91), 2, (unit, [list(range(91))], 2)))
        self.assertFalse(check_distance(whole_code(field, 91), 1, (unit, [list(range(90))], 2)))
        self.assertFalse(check_distance(whole_code(field, 91), 1, (unit, [list(range(91))], 92)))
        self.assertFalse(check_distance(whole_code(field, 91), 1, (unit, [], 91)))
        code = LinearCode(field, 182, [[1 if at % 91 == i else 0 for at in range(182)] for i in range(91)])
        word = [1] * 6 + [0] * 85
        self.assertFalse(check_distance(code, 12, (word + word, [list(range(91))], 2)))
        with self.assertRaises(TooLarge):
            check_distance(code, 12, (word + word, [list(range(91))], 91))
        self.assertTrue(check_distance(whole_code(field, 12), 1, (unit[:12], [list(range(12))], 12)))
        with self.assertRaises(TooLarge):
            check_distance(whole_code(field, 13), 1, (unit[:13], [list(range(13))], 13))

    def test_no_common_lists(self):
        code = LinearCode(Field(5), 4, [[1, 0, 2, 4], [0, 1, 3, 3]])
        word, sets, _ = distance_certificate(code)
        word.append(1)
        sets[0].append(1)
        sets.append([])
        self.assertEqual(distance_certificate(code), ([0, 1, 3, 3], [[0, 1], [2, 3]], 1))


class ResidualTest(unittest.TestCase):
    def test_point_46_words(self):
        for field in SMALL_FIELDS[:5]:
            for code in some_codes(field):
                for word in code.words()[:12]:
                    rest = [at for at in range(code.length) if word[at] == 0]
                    if rest:
                        made = residual(code, word)
                        expected = {tuple(other[at] for at in rest) for other in code.words()}
                        self.assertEqual(made.words(), [list(other) for other in sorted(expected)])
                        self.assertIs(made.field, field)
                    else:
                        with self.assertRaises(InvalidCode):
                            residual(code, word)

    def test_point_46_beside_a_lightest_word(self):
        for field in SMALL_FIELDS[:5]:
            for code in some_codes(field):
                for word in lightest_words(code)[:5]:
                    distance = weight(word)
                    if distance < code.length:
                        made = residual(code, word)
                        self.assertEqual(made.dimension, code.dimension - 1)
                        for other in made.words()[1:]:
                            self.assertGreaterEqual(field.order * weight(other), distance)

    def test_point_46_zero_word(self):
        code = parity_code(Field(3), 4)
        self.assertTrue(residual(code, [0] * 4).same_as(code))
        self.assertIsNot(residual(code, [0] * 4), code)

    def test_point_46_errors_in_order(self):
        code = parity_code(Field(3), 3)
        for word in ([], [1, 1], [1, 1, 1, 0], [None, 1, 2], [-1, 1, 0], [3, 0, 0], [4, 1, 1]):
            with self.assertRaises(InvalidWord):
                residual(code, word)
        with self.assertRaises(NotInCode):
            residual(code, [1, 1, 0])
        # Not in the code, and without an item 0.
        with self.assertRaises(NotInCode):
            residual(code, [1, 1, 2])
        with self.assertRaises(InvalidCode):
            residual(code, [1, 1, 1])

    def test_point_46_great_codes(self):
        code = parity_code(standard_field(256), 255)
        self.assertEqual(residual(code, [1, 1] + [0] * 253).dimension, 253)
