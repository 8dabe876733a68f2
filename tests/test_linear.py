"""Points 26 to 30: linear codes."""

import unittest

from nearestword.errors import InvalidCode, InvalidWord, NotInCode, TooLarge
from nearestword.fields import Field, standard_field
from nearestword.linear import LinearCode, code_from_checks
from tests.support import (
    SMALL_FIELDS, combinations_of, every_word, random_rows, slow_dot, slow_negative, words_with_checks,
)


def some_rows(field):
    """Rows of words of length 4: repeated, zero, dependent ones among them."""
    rows = random_rows(26, field, 3, 4)
    total = [field.plus(x, y) for x, y in zip(rows[0], rows[1])]
    return [
        [], [[0] * 4], rows[:1], rows[:1] * 3, rows[:2], rows[:2] + [total, [0] * 4], [[0] + rows[2][1:]],
        [[1, 0, 0, 0], [0, 1, 0, 0], [0, 0, 1, 0], [0, 0, 0, 1]], [[0, 0, 0, field.order - 1]],
    ]


class MakingTest(unittest.TestCase):
    def test_point_26_words(self):
        for field in SMALL_FIELDS:
            for rows in some_rows(field):
                code = LinearCode(field, 4, rows)
                if code.size > 4096:
                    continue
                expected = combinations_of(field, rows, 4)
                self.assertEqual(code.words(), expected)
                self.assertEqual(code.size, len(expected))
                self.assertEqual(field.order ** code.dimension, len(expected))
                self.assertIs(code.field, field)
                self.assertEqual(code.length, 4)

    def test_point_26_no_row(self):
        code = LinearCode(Field(3), 5, [])
        self.assertEqual((code.dimension, code.size, code.words()), (0, 1, [[0] * 5]))
        self.assertEqual((code.rows, code.pivots), ([], []))

    def test_point_26_lengths(self):
        field = Field(2)
        self.assertEqual(LinearCode(field, 1, [[1]]).words(), [[0], [1]])
        self.assertEqual(LinearCode(field, 255, [[1] * 255]).size, 2)
        for length in (0, -1, 256, 2000, -2000):
            with self.assertRaises(InvalidCode):
                LinearCode(field, length, [])
            with self.assertRaises(InvalidCode):
                LinearCode(field, length, [[0] * max(0, length)])
            with self.assertRaises(InvalidCode):
                code_from_checks(field, length, [])

    def test_point_26_wrong_rows(self):
        for field in SMALL_FIELDS:
            for row in (
                [], [0], [0, 0, 0], [0, None], [None, 0], [0, -1], [0, field.order], [1000, 0],
            ):
                for rows in ([row], [[0, 1], row], [row, [0, 1]]):
                    with self.assertRaises(InvalidCode):
                        LinearCode(field, 2, rows)
                    with self.assertRaises(InvalidCode):
                        code_from_checks(field, 2, rows)

    def test_point_26_a_thousand_rows(self):
        field = standard_field(4)
        rows = random_rows(1, field, 5, 60)
        many = [row for _ in range(200) for row in rows]
        code = LinearCode(field, 60, many)
        self.assertEqual(code.dimension, 5)
        self.assertEqual(code.rows, LinearCode(field, 60, rows).rows)

    def test_point_27_reduced_rows(self):
        for field in SMALL_FIELDS:
            for rows in some_rows(field):
                code = LinearCode(field, 4, rows)
                reduced, pivots = code.rows, code.pivots
                self.assertEqual(len(reduced), code.dimension)
                self.assertEqual(pivots, sorted(set(pivots)))
                self.assertEqual(len(pivots), len(reduced))
                for row, pivot in zip(reduced, pivots):
                    self.assertEqual(row[:pivot + 1], [0] * pivot + [1])
                    self.assertEqual(sum(1 for other in reduced if other[pivot] != 0), 1)
                self.assertEqual(combinations_of(field, reduced, 4), combinations_of(field, rows, 4))

    def test_point_27_great_codes(self):
        field = standard_field(256)
        unit = [[1 if i == j else 0 for j in range(255)] for i in range(255)]
        code = LinearCode(field, 255, [[7 * item for item in row] for row in unit][::-1])
        self.assertEqual((code.dimension, code.size), (255, 256 ** 255))
        self.assertEqual((code.rows, code.checks), (unit, []))
        self.assertEqual(code.pivots, list(range(255)))


class WordsTest(unittest.TestCase):
    def test_point_28_messages(self):
        for field in SMALL_FIELDS:
            for rows in some_rows(field):
                code = LinearCode(field, 4, rows)
                if code.size > 4096:
                    continue
                words = []
                for message in every_word(field, code.dimension):
                    word = code.word_for(message)
                    self.assertEqual([word[pivot] for pivot in code.pivots], message)
                    self.assertEqual(code.message_of(word), message)
                    words.append(word)
                self.assertEqual(words, code.words())

    def test_point_28_dimension_0(self):
        code = LinearCode(Field(5), 3, [[0, 0, 0]])
        self.assertEqual(code.word_for([]), [0, 0, 0])
        self.assertEqual(code.message_of([0, 0, 0]), [])
        with self.assertRaises(InvalidWord):
            code.word_for([0])

    def test_point_28_wrong_messages(self):
        code = LinearCode(Field(3), 3, [[1, 0, 1], [0, 1, 2]])
        for message in ([], [1], [1, 1, 1], [1, None], [-1, 0], [0, 3]):
            with self.assertRaises(InvalidWord):
                code.word_for(message)

    def test_point_28_contains(self):
        for field in SMALL_FIELDS[:4]:
            for rows in some_rows(field):
                code = LinearCode(field, 4, rows)
                words = combinations_of(field, rows, 4)
                for word in random_rows(28, field, 30, 4) + words[:20]:
                    self.assertIs(code.contains(word), word in words)
                    if word not in words:
                        with self.assertRaises(NotInCode):
                            code.message_of(word)

    def test_point_28_invalid_word_comes_first(self):
        code = LinearCode(Field(3), 2, [[1, 1]])
        for word in ([], [0], [1, 1, 1], [0, None], [1, -1], [1, 3], [5, 5]):
            for method in (code.contains, code.message_of, code.syndrome):
                with self.assertRaises(InvalidWord):
                    method(word)

    def test_words_limit(self):
        for order, dimension in ((2, 12), (16, 3), (64, 2)):
            field = standard_field(order)
            rows = [[1 if i == j else 0 for j in range(dimension + 2)] for i in range(dimension + 1)]
            code = LinearCode(field, dimension + 2, rows[:-1])
            words = code.words()
            self.assertEqual((len(words), words), (4096, sorted(words)))
            with self.assertRaises(TooLarge):
                LinearCode(field, dimension + 2, rows).words()
        with self.assertRaises(TooLarge):
            LinearCode(standard_field(17), 3, [[1, 0, 0], [0, 1, 0], [0, 0, 1]]).words()


class ChecksTest(unittest.TestCase):
    def test_point_29_form_of_the_checks(self):
        for field in SMALL_FIELDS:
            for rows in some_rows(field):
                code = LinearCode(field, 4, rows)
                free = [at for at in range(4) if at not in code.pivots]
                expected = []
                for place in free:
                    check = [0] * 4
                    check[place] = 1
                    for pivot, row in zip(code.pivots, code.rows):
                        check[pivot] = slow_negative(field, row[place])
                    expected.append(check)
                self.assertEqual(code.checks, expected)

    def test_point_29_syndromes(self):
        for field in SMALL_FIELDS:
            for rows in some_rows(field):
                code = LinearCode(field, 4, rows)
                for word in random_rows(29, field, 10, 4) + [code.word_for([1] * code.dimension)]:
                    syndrome = code.syndrome(word)
                    self.assertEqual(syndrome, [slow_dot(field, check, word) for check in code.checks])
                    self.assertEqual(code.contains(word), not any(syndrome))

    def test_point_29_no_check(self):
        code = LinearCode(Field(2), 2, [[1, 1], [0, 1]])
        self.assertEqual((code.checks, code.syndrome([1, 0])), ([], []))

    def test_point_29_dimension_0(self):
        code = LinearCode(Field(3), 2, [])
        self.assertEqual((code.checks, code.syndrome([2, 1])), ([[1, 0], [0, 1]], [2, 1]))

    def test_point_30_codes_from_checks(self):
        for field in SMALL_FIELDS[:5]:
            for rows in some_rows(field):
                code = code_from_checks(field, 4, rows)
                self.assertIs(code.field, field)
                self.assertEqual(code.dimension, 4 - LinearCode(field, 4, rows).dimension)
                if field.order < 5:
                    self.assertEqual(code.words(), words_with_checks(field, rows, 4))
                again = code_from_checks(field, 4, code.checks)
                self.assertEqual((again.rows, again.checks), (code.rows, code.checks))

    def test_point_30_no_check(self):
        self.assertEqual(code_from_checks(Field(2), 2, []).words(), [[0, 0], [0, 1], [1, 0], [1, 1]])


class ObjectTest(unittest.TestCase):
    def test_point_3_rows_are_copied(self):
        rows = [[1, 1, 0], [0, 1, 1]]
        code = LinearCode(Field(2), 3, rows)
        rows[0][0] = 0
        rows.append([1, 1, 1])
        self.assertEqual(code.rows, [[1, 0, 1], [0, 1, 1]])
        self.assertEqual(code.words(), [[0, 0, 0], [0, 1, 1], [1, 0, 1], [1, 1, 0]])

    def test_point_3_reduced_rows_are_copied(self):
        rows = [[1, 0], [0, 1]]
        code = LinearCode(Field(2), 2, rows)
        rows[0][1] = 1
        self.assertEqual(code.rows, [[1, 0], [0, 1]])

    def test_point_3_properties_are_new_lists(self):
        code = LinearCode(Field(2), 3, [[1, 0, 1]])
        for change in (
            lambda: code.rows[0].append(1), lambda: code.rows.append([0]), lambda: code.checks[0].append(1),
            lambda: code.checks.clear(), lambda: code.pivots.append(2), lambda: code.words()[0].append(1),
        ):
            change()
            self.assertEqual((code.rows, code.pivots), ([[1, 0, 1]], [0]))
            self.assertEqual(code.checks, [[0, 1, 0], [1, 0, 1]])
            self.assertEqual(code.words(), [[0, 0, 0], [1, 0, 1]])

    def test_point_4_nothing_changes_with_an_error(self):
        code = LinearCode(Field(2), 3, [[1, 0, 1]])
        for call in (lambda: code.word_for([2]), lambda: code.message_of([1, 1, 1]), lambda: code.syndrome([None] * 3)):
            with self.assertRaises(ValueError):
                call()
        self.assertEqual((code.rows, code.checks, code.dimension), ([[1, 0, 1]], [[0, 1, 0], [1, 0, 1]], 1))

    def test_point_27_same_as(self):
        field = Field(2, (1, 1, 0, 1))
        code = LinearCode(field, 3, [[1, 2, 3], [0, 1, 1]])
        self.assertIs(code.same_as(code), True)
        self.assertIs(code.same_as(LinearCode(Field(2, (1, 1, 0, 1)), 3, [[0, 1, 1], [1, 3, 2]])), True)
        self.assertIs(code.same_as(LinearCode(field, 3, [[1, 2, 3]])), False)
        self.assertIs(code.same_as(LinearCode(field, 4, [[1, 2, 3, 0], [0, 1, 1, 0]])), False)
        other = Field(2, (1, 0, 1, 1))
        self.assertIs(code.same_as(LinearCode(other, 3, code.rows)), False)
        self.assertIs(LinearCode(Field(2), 3, []).same_as(LinearCode(Field(2), 4, [])), False)
        self.assertIs(LinearCode(Field(2), 3, []).same_as(LinearCode(Field(3), 3, [])), False)
