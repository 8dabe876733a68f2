"""Point 3: no call modifies its arguments, and each list that is returned is new."""

import unittest

from nearestword import (
    changes, distances, enumerators, families, fields, linear, matrices, polynomials, words,
)
from nearestword.errors import CodeError
from tests.support import all_lists, deep_copy, spoil

FIELD = fields.Field(5)
CODE = linear.LinearCode(FIELD, 4, [[1, 0, 2, 4], [0, 1, 3, 3]])
PARITY = families.parity_code(FIELD, 4)
ZERO = families.zero_code(FIELD, 4)
WHOLE = families.whole_code(FIELD, 2)
ROWS = [[1, 2, 0], [2, 4, 1], [0, 0, 3]]
CERTIFICATE = ([0, 1, 3, 3], [[3, 2], [0, 1]], 1)

CALLS = [
    (FIELD.digits, 3), (FIELD.element, [3]), (FIELD.all_elements,),
    (polynomials.degree_of, [1, 2]), (polynomials.poly_trim, [1, 2]), (polynomials.poly_trim, [1, 0]),
    (polynomials.poly_add, FIELD, [1, 2], []), (polynomials.poly_add, FIELD, [], [1, 2]),
    (polynomials.poly_subtract, FIELD, [1, 2], [1, 2]), (polynomials.poly_subtract, FIELD, [1, 2], []),
    (polynomials.poly_multiply, FIELD, [1, 2], [3, 1]), (polynomials.poly_multiply, FIELD, [1, 2], [1]),
    (polynomials.poly_scale, FIELD, [1, 2], 1), (polynomials.poly_divide, FIELD, [1, 2, 3], [1, 1]),
    (polynomials.poly_divide, FIELD, [1, 2], [1]), (polynomials.poly_divide, FIELD, [1, 2], [0, 0, 1]),
    (polynomials.poly_divide, FIELD, [1, 2], []), (polynomials.poly_gcd, FIELD, [1, 1], []),
    (polynomials.poly_gcd, FIELD, [], [1, 1]), (polynomials.poly_bezout, FIELD, [1, 2, 3], [4, 1]),
    (polynomials.poly_bezout, FIELD, [1], [1]), (polynomials.poly_bezout, FIELD, [], []),
    (polynomials.poly_evaluate, FIELD, [1, 2], 3), (polynomials.poly_derivative, FIELD, [1, 2, 3]),
    (polynomials.poly_roots, FIELD, [4, 0, 1]), (polynomials.poly_from_roots, FIELD, [1, 1, 2]),
    (polynomials.interpolate, FIELD, [0, 1, 2], [1, 3, 0]), (polynomials.interpolate, FIELD, [1, 1], [1, 3]),
    (polynomials.poly_factors, FIELD, [0, 4, 0, 1]), (polynomials.poly_factors, FIELD, [1, 1]),
    (matrices.reduce_rows, FIELD, ROWS), (matrices.reduce_rows, FIELD, [[1, 0], [0, 1]]),
    (matrices.reduce_rows, FIELD, [[1, 2], [1]]), (matrices.rank_of, FIELD, ROWS, 3),
    (matrices.kernel, FIELD, ROWS, 3), (matrices.solve, FIELD, ROWS, 3, [1, 2, 0]),
    (matrices.solve, FIELD, ROWS, 3, [1, 2, 3]), (matrices.solve, FIELD, ROWS, 3, [1]),
    (matrices.multiply_vector, FIELD, ROWS, [1, 2, 3]), (matrices.multiply_matrices, FIELD, ROWS, ROWS, 3),
    (matrices.multiply_matrices, FIELD, [[1]], [[1, 2]], 2), (matrices.transpose, ROWS, 3),
    (matrices.determinant, FIELD, [[0, 1], [1, 1]]), (matrices.invert_matrix, FIELD, [[0, 1], [1, 1]]),
    (matrices.invert_matrix, FIELD, [[1, 0], [0, 1]]), (matrices.invert_matrix, FIELD, ROWS),
    (words.weight_of, [1, 0]), (words.support_of, [1, 0]), (words.distance_between, [1, 0], [1, 1]),
    (words.erased_positions, [None, 0]), (words.errors_beside, [1, 0], [None, 1]), (words.is_word, FIELD, 2, [1, 0]),
    (words.is_received, FIELD, 2, [None, 0]), (words.zero_word, 3), (words.add_words, FIELD, [1, 0], [0, 0]),
    (words.subtract_words, FIELD, [1, 0], [0, 0]), (words.scale_word, FIELD, 1, [1, 0]),
    (words.add_words, FIELD, [1, None], [0, 0]),
    (linear.LinearCode, FIELD, 3, ROWS), (linear.LinearCode, FIELD, 2, ROWS),
    (linear.code_from_checks, FIELD, 3, ROWS), (CODE.word_for, [1, 2]), (CODE.contains, [1, 0, 2, 4]),
    (CODE.message_of, [1, 0, 2, 4]), (CODE.message_of, [1, 0, 2, 3]), (CODE.syndrome, [1, 0, 2, 3]), (WHOLE.words,),
    (changes.dual, CODE), (changes.shortened, CODE, [3, 1]), (changes.punctured, CODE, [3, 1]),
    (changes.shortened, CODE, []), (changes.punctured, CODE, [1, 1]), (changes.extended, CODE),
    (changes.joined, CODE, PARITY), (changes.doubled, CODE, PARITY), (changes.span_of, CODE, PARITY),
    (changes.meeting, CODE, PARITY), (changes.permuted, CODE, [3, 1, 0, 2]), (changes.permuted, CODE, [3, 1, 0, 0]),
    (distances.minimum_distance, CODE), (distances.lightest_words, CODE), (distances.lightest_words, ZERO),
    (distances.distance_by_columns, CODE), (distances.errors_mended, CODE), (distances.information_sets, CODE),
    (distances.distance_certificate, CODE), (distances.check_distance, CODE, 3, CERTIFICATE),
    (distances.check_distance, CODE, 2, CERTIFICATE), (distances.residual, CODE, [0, 1, 3, 3]),
    (distances.residual, CODE, [0, 1, 3, 2]), (enumerators.enumerator, CODE),
    (enumerators.dual_enumerator, 3, [1, 0, 2, 0]), (enumerators.dual_enumerator, 3, [1, 0, 2]),
    (enumerators.enumerator_by_dual, CODE), (enumerators.outer_distance, CODE),
    (enumerators.vanishing_dimension, CODE, [3, 0]), (enumerators.binomial_moment, [1, 0, 2, 0], 1),
    (enumerators.average_weight, [1, 0, 2, 0]), (enumerators.separable_enumerator, 5, 4, 2),
]


def state_of(code):
    return (code.rows, code.pivots, code.checks, code.size, code.length, code.dimension)


def outcome(call, arguments):
    """What the call returns, a code as its state; or the class of the error that it raises."""
    try:
        result = call(*arguments)
    except CodeError as error:
        return error.__class__
    return state_of(result) if isinstance(result, linear.LinearCode) else result


class UnchangedTest(unittest.TestCase):
    def test_point_3_arguments_stay_as_they_are(self):
        before = [state_of(code) for code in (CODE, PARITY, ZERO, WHOLE)]
        for call, *arguments in CALLS:
            with self.subTest(call=call.__name__, arguments=arguments):
                given = deep_copy(arguments)
                first = outcome(call, given)
                self.assertEqual(given, arguments)
                self.assertEqual(outcome(call, given), first)
        self.assertEqual([state_of(code) for code in (CODE, PARITY, ZERO, WHOLE)], before)

    def test_point_3_results_are_new_lists(self):
        for call, *arguments in CALLS:
            with self.subTest(call=call.__name__, arguments=arguments):
                given = deep_copy(arguments)
                result = outcome(call, given)
                kept = deep_copy(result)
                places = all_lists(result)
                self.assertEqual(len(places), len(set(places)))
                spoil(result)
                self.assertEqual(given, arguments)
                self.assertEqual(outcome(call, given), kept)

    def test_point_3_objects_copy_what_they_are_given(self):
        rows = deep_copy(ROWS)
        for make in (linear.LinearCode, linear.code_from_checks):
            code = make(FIELD, 3, rows)
            before = deep_copy(state_of(code))
            spoil(rows)
            self.assertEqual(state_of(code), before)
            rows = deep_copy(ROWS)
        order, positions = [3, 1, 0, 2], [1]
        made = [changes.permuted(CODE, order), changes.shortened(CODE, positions), changes.punctured(CODE, positions)]
        before = [deep_copy(state_of(code)) for code in made]
        spoil(order)
        spoil(positions)
        self.assertEqual([state_of(code) for code in made], before)
