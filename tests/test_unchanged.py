"""Point 3: no call modifies its arguments, and each list that is returned is new."""

import unittest

from nearestword import (
    bch, bounds, changes, checksums, concatenation, convolution, cosets, cyclic, decoding, distances, doubts,
    enumerators, evaluation, families, fields, freedistance, interleaving, judging, keyequation, linear, matrices,
    nearest, notation, pathdecoder, polynomials, products, report, trellis, words, workshop,
)
from nearestword.errors import Ambiguous, Catastrophic, CodeError
from tests.support import all_lists, deep_copy, spoil

FIELD = fields.Field(5)
CODE = linear.LinearCode(FIELD, 4, [[1, 0, 2, 4], [0, 1, 3, 3]])
PARITY = families.parity_code(FIELD, 4)
ZERO = families.zero_code(FIELD, 4)
WHOLE = families.whole_code(FIELD, 2)
ROWS = [[1, 2, 0], [2, 4, 1], [0, 0, 3]]
CERTIFICATE = ([0, 1, 3, 3], [[3, 2], [0, 1]], 1)
PAIRS = families.repetition_code(FIELD, 2)
CHECKSUM = checksums.Checksum([1, 1, 0, 1])
SYNDROMES = decoding.SyndromeDecoder(CODE)
ERASURES = decoding.ErasureDecoder(CODE)
CYCLIC = cyclic.CyclicCode(FIELD, 4, [3, 1])
VALUES = evaluation.EvaluationCode(FIELD, [0, 1, 2, 3, 4], 2)
BCH = bch.BchCode(fields.standard_field(9), 8, 4)
ENCODER = convolution.Encoder([[1, 0, 1], [1, 1, 0]])
SILENT = convolution.Encoder([[1, 1], [1, 1]])
PATHS = pathdecoder.PathDecoder(ENCODER)
INTERLEAVED = interleaving.InterleavedCode(VALUES, 2)
PRODUCT = products.ProductCode(families.parity_code(FIELD, 3), families.repetition_code(FIELD, 3))
OUTER = evaluation.EvaluationCode(fields.Field(2, (1, 1, 1)), [0, 1, 2], 1)
INNER = linear.LinearCode(fields.Field(2), 3, [[1, 0, 1], [0, 1, 1]])
CONCATENATED = concatenation.ConcatenatedCode(OUTER, INNER)
SHOP = workshop.Workshop()
TABLE = [[2, 2, 2, 2], [1, 1, 1, 2], [1, 0, 1, 2], [0, 0, 0, 0]]


def nearest_messages(encoder, received):
    return list(trellis.nearest_messages(encoder, received))


CALLS = [
    (FIELD.digits, 3), (FIELD.element, [3]), (FIELD.all_elements,),
    (polynomials.degree_of, [1, 2]), (polynomials.poly_trim, [1, 2]), (polynomials.poly_trim, [1, 0]),
    (polynomials.poly_add, FIELD, [1, 2], []), (polynomials.poly_add, FIELD, [], [1, 2]),
    (polynomials.poly_subtract, FIELD, [1, 2], [1, 2]), (polynomials.poly_subtract, FIELD, [1, 2], []),
    (polynomials.poly_multiply, FIELD, [1, 2], [3, 1]), (polynomials.poly_multiply, FIELD, [1, 2], [1]),
    (polynomials.poly_scale, FIELD, [1, 2], 1), (polynomials.poly_divide, FIELD, [1, 2, 3], [1, 1]),
    (polynomials.poly_divide, FIELD, [1, 2], [1]), (polynomials.poly_divide, FIELD, [1, 2], [0, 0, 1]),
    (polynomials.poly_divide, FIELD, [1, 2], []), (polynomials.poly_gcd, FIELD, [1, 1], []),
    (polynomials.poly_gcd, FIELD, [], [1, 1]), (polynomials.poly_bezout, FIELD, [1, 2, 3], [4, 1]),
    (polynomials.poly_bezout, FIELD, [1], [1]), (polynomials.poly_bezout, FIELD, [], []),
    (polynomials.poly_evaluate, FIELD, [1, 2], 3), (polynomials.poly_derivative, FIELD, [1, 2, 3]),
    (polynomials.poly_roots, FIELD, [4, 0, 1]), (polynomials.poly_from_roots, FIELD, [1, 1, 2]),
    (polynomials.interpolate, FIELD, [0, 1, 2], [1, 3, 0]), (polynomials.interpolate, FIELD, [1, 1], [1, 3]),
    (polynomials.poly_factors, FIELD, [0, 4, 0, 1]), (polynomials.poly_factors, FIELD, [1, 1]),
    (matrices.reduce_rows, FIELD, ROWS), (matrices.reduce_rows, FIELD, [[1, 0], [0, 1]]),
    (matrices.reduce_rows, FIELD, [[1, 2], [1]]), (matrices.rank_of, FIELD, ROWS, 3),
    (matrices.kernel, FIELD, ROWS, 3), (matrices.solve, FIELD, ROWS, 3, [1, 2, 0]),
    (matrices.solve, FIELD, ROWS, 3, [1, 2, 3]), (matrices.solve, FIELD, ROWS, 3, [1]),
    (matrices.multiply_vector, FIELD, ROWS, [1, 2, 3]), (matrices.multiply_matrices, FIELD, ROWS, ROWS, 3),
    (matrices.multiply_matrices, FIELD, [[1]], [[1, 2]], 2), (matrices.transpose, ROWS, 3),
    (matrices.determinant, FIELD, [[0, 1], [1, 1]]), (matrices.invert_matrix, FIELD, [[0, 1], [1, 1]]),
    (matrices.invert_matrix, FIELD, [[1, 0], [0, 1]]), (matrices.invert_matrix, FIELD, ROWS),
    (words.weight_of, [1, 0]), (words.support_of, [1, 0]), (words.distance_between, [1, 0], [1, 1]),
    (words.erased_positions, [None, 0]), (words.errors_beside, [1, 0], [None, 1]), (words.is_word, FIELD, 2, [1, 0]),
    (words.is_received, FIELD, 2, [None, 0]), (words.zero_word, 3), (words.add_words, FIELD, [1, 0], [0, 0]),
    (words.subtract_words, FIELD, [1, 0], [0, 0]), (words.scale_word, FIELD, 1, [1, 0]),
    (words.add_words, FIELD, [1, None], [0, 0]),
    (linear.LinearCode, FIELD, 3, ROWS), (linear.LinearCode, FIELD, 2, ROWS),
    (linear.code_from_checks, FIELD, 3, ROWS), (CODE.word_for, [1, 2]), (CODE.contains, [1, 0, 2, 4]),
    (CODE.message_of, [1, 0, 2, 4]), (CODE.message_of, [1, 0, 2, 3]), (CODE.syndrome, [1, 0, 2, 3]), (WHOLE.words,),
    (changes.dual, CODE), (changes.shortened, CODE, [3, 1]), (changes.punctured, CODE, [3, 1]),
    (changes.shortened, CODE, []), (changes.punctured, CODE, [1, 1]), (changes.extended, CODE),
    (changes.joined, CODE, PARITY), (changes.doubled, CODE, PARITY), (changes.span_of, CODE, PARITY),
    (changes.meeting, CODE, PARITY), (changes.permuted, CODE, [3, 1, 0, 2]), (changes.permuted, CODE, [3, 1, 0, 0]),
    (distances.minimum_distance, CODE), (distances.lightest_words, CODE), (distances.lightest_words, ZERO),
    (distances.distance_by_columns, CODE), (distances.errors_mended, CODE), (distances.information_sets, CODE),
    (distances.distance_certificate, CODE), (distances.check_distance, CODE, 3, CERTIFICATE),
    (distances.check_distance, CODE, 2, CERTIFICATE), (distances.residual, CODE, [0, 1, 3, 3]),
    (distances.residual, CODE, [0, 1, 3, 2]), (enumerators.enumerator, CODE),
    (enumerators.dual_enumerator, 3, [1, 0, 2, 0]), (enumerators.dual_enumerator, 3, [1, 0, 2]),
    (enumerators.enumerator_by_dual, CODE), (enumerators.outer_distance, CODE),
    (enumerators.vanishing_dimension, CODE, [3, 0]), (enumerators.binomial_moment, [1, 0, 2, 0], 1),
    (enumerators.average_weight, [1, 0, 2, 0]), (enumerators.separable_enumerator, 5, 4, 2),
    (bounds.is_perfect, CODE), (bounds.is_separable, CODE), (bounds.varshamov_code, FIELD, 4, 2, 2),
    (bounds.varshamov_code, FIELD, 4, 2, 4),
    (cosets.leaders, PAIRS), (cosets.leader_weights, CODE), (cosets.covering_radius, CODE),
    (cosets.coset_of, CODE, [1, 0, 2, 3]), (cosets.coset_of, ZERO, [1, 0, 2, 3]), (cosets.coset_of, CODE, [1, 0, 2]),
    (cosets.deep_holes, PAIRS), (cosets.deep_holes, ZERO),
    (checksums.Checksum, [1, 1, 0, 1]), (checksums.Checksum, [1, 1, 0]), (CHECKSUM.remainder, [1, 0, 1, 1]),
    (CHECKSUM.remainder, []), (CHECKSUM.sealed, [1, 0]), (CHECKSUM.sealed, []), (CHECKSUM.sealed, [2]),
    (CHECKSUM.is_good, [1, 0, 1, 1]), (CHECKSUM.advance, [0, 0, 0], 0), (CHECKSUM.advance, [1, 0, 0], 1),
    (CHECKSUM.advance, [1, 0], 1), (CHECKSUM.remainder_by_blocks, [1, 0, 1, 1], 4),
    (CHECKSUM.remainder_by_blocks, [1, 0, 1, 1], 3), (CHECKSUM.remainder_by_blocks, [1, 0, 1, 1], 9),
    (CHECKSUM.linear, 4), (CHECKSUM.period,), (CHECKSUM.finds_odd,),
    (nearest.nearest, CODE, [1, None, 2, 3]), (nearest.nearest, CODE, [1, 5, 2, 3]),
    (nearest.within, CODE, [1, None, 2, 3], 2), (nearest.nearest_word, CODE, [1, 0, 2, 3]),
    (nearest.nearest_word, CODE, [1, None, None, 3]), (nearest.word_within, CODE, [1, 0, 2, 3], 1),
    (nearest.word_within, CODE, [1, 0, 2, 3], 0), (nearest.word_within, CODE, [1, 0, 2, 3], 3),
    (decoding.SyndromeDecoder, PAIRS), (SYNDROMES.leaders_of, [1, 0, 2, 3]), (SYNDROMES.leaders_of, [1, 0, 2, None]),
    (SYNDROMES.corrected, [1, 0, 2, 3]), (SYNDROMES.corrected, [1, 1, 1, 1]), (SYNDROMES.corrected, [1, 0, 2, 4]),
    (SYNDROMES.nearest, [1, 0, 2, 3]), (SYNDROMES.nearest, [1, 1, 1, 1]),
    (decoding.ErasureDecoder, PAIRS), (ERASURES.can_fill, [3, 1, 3]), (ERASURES.can_fill, []),
    (ERASURES.filled, [1, None, 2, None]), (ERASURES.filled, [1, 0, 2, 4]), (ERASURES.filled, [1, None, None, None]),
    (ERASURES.filled, [1, 0, 2, 3]),
    (judging.check_nearest, CODE, [1, 0, 2, 3], 1, [[1, 0, 2, 4]]),
    (judging.check_nearest, CODE, [1, 0, 2, None], 1, [[1, 0, 2, 4], [1]]),
    (judging.check_within, CODE, [1, None, 2, 3], [1, 0, 2, 4], 1), (judging.check_within, CODE, [1, 0, 2, 3], [1], 1),
    (judging.is_safe, CODE, 1), (judging.is_safe, CODE, 2), (judging.conflict, CODE, 1), (judging.conflict, CODE, 2),
    (judging.conflict, CODE, 3), (judging.conflict, CODE, 9),
    (cyclic.CyclicCode, FIELD, 4, [3, 1]), (cyclic.CyclicCode, FIELD, 4, [3, 2]), (CYCLIC.word_for, [1, 0, 2]),
    (CYCLIC.word_for, [1, 0]), (CYCLIC.contains, [2, 1, 0, 2]), (CYCLIC.message_of, [2, 1, 0, 2]),
    (CYCLIC.message_of, [2, 1, 0, 1]), (CYCLIC.shifted, [2, 1, 0, 1], 0), (CYCLIC.shifted, [2, 1, 0, 1], -3),
    (CYCLIC.linear,), (cyclic.CyclicCode(FIELD, 4, [1]).word_for, [1, 0, 2, 0]),
    (cyclic.CyclicCode(FIELD, 4, [1]).message_of, [1, 0, 2, 0]),
    (cyclic.CyclicCode(FIELD, 4, [4, 0, 0, 0, 1]).word_for, []),
    (cyclic.cyclic_generators, FIELD, 4),
    (keyequation.key_equation, FIELD, [0, 0, 0, 1], [1, 1], 1),
    (keyequation.key_equation, FIELD, [0, 0, 0, 1], [1, 1], 3),
    (keyequation.key_equation, FIELD, [0, 0, 0, 1], [], 0), (keyequation.key_equation, FIELD, [], [], 0),
    (keyequation.shortest_register, FIELD, [1, 3, 2, 2, 1, 4]), (keyequation.shortest_register, FIELD, []),
    (keyequation.shortest_register, FIELD, [0, 0, 3]),
    (evaluation.EvaluationCode, FIELD, [3, 1, 2], 2), (evaluation.EvaluationCode, FIELD, [3, 1, 3], 2),
    (VALUES.word_for, [1, 2]), (VALUES.word_for, [0, 0]), (VALUES.word_for, [1]), (VALUES.contains, [1, 3, 0, 2, 4]),
    (VALUES.message_of, [1, 3, 0, 2, 4]), (VALUES.message_of, [1, 3, 0, 2, 0]), (VALUES.linear,),
    (VALUES.corrected, [1, 3, 0, 2, 0]), (VALUES.corrected, [1, 3, 0, 2, 4]), (VALUES.corrected, [1, 3, 0, None, None]),
    (VALUES.corrected, [None, 3, 0, 2, 2]), (VALUES.message_for, [1, 3, 0, 2, 0]), (VALUES.message_for, [0] * 5),
    (VALUES.error_locator, [1, 3, 0, 2, 0]), (VALUES.error_locator, [1, 3, 0, 2, 4]),
    (bch.minimal_polynomial, BCH.field, 5), (bch.BchCode, BCH.field, 8, 4), (bch.BchCode, BCH.field, 3, 1),
    (BCH.word_for, [1, 0, 2, 0]), (BCH.word_for, [1, 0]), (BCH.contains, [2, 1, 0, 1, 1, 0, 0, 0]),
    (BCH.message_of, [2, 1, 0, 1, 1, 0, 0, 0]), (BCH.message_of, [2, 1, 0, 1, 1, 0, 0, 1]), (BCH.linear,),
    (BCH.syndromes, [2, 1, 0, 1, 1, 0, 0, 1]), (BCH.corrected, [0, 0, 0, 0, 0, 2, 0, 0]), (BCH.corrected, [0] * 8),
    (BCH.corrected, [2, 1, None, 1, 1, 0, None, 0]), (BCH.corrected, [None] * 8),
    (convolution.Encoder, [[1, 0, 1], [1, 1, 0]]), (convolution.Encoder, [[1, 0, 1], [1, 1]]), (ENCODER.advance, 2, 1),
    (ENCODER.advance, 4, 1), (ENCODER.word_for, [1, 0]), (ENCODER.word_for, [2]), (ENCODER.states_for, [1, 0]),
    (ENCODER.message_of, [1, 1, 0, 1, 1, 0, 0, 0]), (ENCODER.message_of, [1] * 8), (ENCODER.contains, [0] * 6),
    (ENCODER.linear, 3), (ENCODER.step_costs, [1, None]),
    (trellis.best_path, ENCODER, [1, None, 0, 1, 1, 1]), (nearest_messages, ENCODER, [1, None, 0, None, None, 1, 1, 0]),
    (trellis.costs_to_go, ENCODER, [1, None, 0, 1, 1, 1]), (trellis.best_path, ENCODER, [1, None, 0, 1, 1]),
    (trellis.check_path, ENCODER, [1, None, 0, 1, 1, 1], 2, [1], TABLE),
    (trellis.check_path, ENCODER, [1, None, 0, 1, 1, 1], 2, [1], [[0]]),
    (freedistance.free_distance, ENCODER), (freedistance.lightest_detour, ENCODER),
    (freedistance.weights_to_zero, ENCODER),
    (freedistance.check_free_distance, ENCODER, 4, [1, 0, 0], [0, 2, 1, 2]),
    (freedistance.check_free_distance, ENCODER, 4, [1, 0], [0, 2, 1]), (freedistance.silent_round, ENCODER),
    (freedistance.silent_round, SILENT), (freedistance.spectrum, ENCODER, 5), (freedistance.spectrum, SILENT, 5),
    (freedistance.weight_counts, ENCODER, 3),
    (doubts.cost_beside, [1, 0], [None, 1]), (doubts.doubt, CODE, 3, [1, None, 2, 3]),
    (doubts.doubt, CODE, 3, [1, 0, 2, 4]),
    (doubts.doubt, ZERO, 3, [0, 0, 0, 0]), (doubts.doubt, CODE, 3, [1, None, 2]), (doubts.kept, [2, 0, 1], 2),
    (doubts.doubt_among, [[0, 0], [1, 1]], 2, [1, None]), (doubts.thresholds_of, [2, 0, 1], 2),
    (interleaving.interleave, [[1, 2], [3, None]]), (interleaving.interleave, [[1, 2]]),
    (interleaving.interleave, [[1], []]),
    (interleaving.spread, [1, 2, None, 4], 2), (interleaving.spread, [1, 2], 1), (interleaving.spread, [1, 2], 0),
    (interleaving.InterleavedCode, VALUES, 3), (interleaving.InterleavedCode, VALUES, 0),
    (INTERLEAVED.word_for, [[1, 2], [0, 3]]), (INTERLEAVED.word_for, [[1, 2], [0]]), (INTERLEAVED.contains, [1] * 10),
    (INTERLEAVED.messages_of, [1] * 10), (INTERLEAVED.messages_of, [1] * 9 + [2]), (INTERLEAVED.linear,),
    (INTERLEAVED.corrected, [1] * 9 + [None]), (INTERLEAVED.corrected, [1] * 10), (INTERLEAVED.corrected, [None] * 10),
    (products.ProductCode, PARITY, CODE), (products.ProductCode, PARITY, ZERO), (PRODUCT.matrix_for, [[1, 2]]),
    (PRODUCT.matrix_for, [[1], [2]]), (PRODUCT.contains, [[1, 2, 2]] * 3),
    (PRODUCT.messages_of, [[1, 2, 2], [1, 2, 2], [1, 2, 2]]),
    (PRODUCT.messages_of, [[1, 2, 2], [1, 2, 2], [0, 0, 0]]), (PRODUCT.linear,), (PRODUCT.mended, 1),
    (PRODUCT.corrected, [[1, 2, 2], [1, 2, 2], [1, 2, 2]]), (PRODUCT.corrected, [[1, 2, 2], [1, None, 2], [4, 2, 2]]),
    (PRODUCT.corrected, [[1, 2, 2], [None, None, None], [None, None, None]]), (PRODUCT.corrected, [[1, 2, 2], [1, 2]]),
    (concatenation.ConcatenatedCode, OUTER, INNER), (concatenation.ConcatenatedCode, VALUES, INNER),
    (CONCATENATED.word_for, [2]),
    (CONCATENATED.word_for, [4]), (CONCATENATED.message_of, [0, 1, 1] * 3),
    (CONCATENATED.message_of, [0, 1, 1] * 2 + [0, 0, 0]),
    (CONCATENATED.contains, [0, 1, 1] * 3), (CONCATENATED.linear,), (CONCATENATED.mended, 2),
    (CONCATENATED.judged, [0, 1, 1, 0, None, 1, 1, 1, 1]),
    (CONCATENATED.outer_received, [0, 1, 1, 0, None, 1, 1, 1, 1], 2),
    (CONCATENATED.corrected, [0, 1, 1, 0, None, 1, 1, 1, 1]), (CONCATENATED.corrected, [0, 1, 1] * 3),
    (CONCATENATED.corrected, [None] * 9), (CONCATENATED.judged, [2] * 9),
    (notation.format_field, FIELD), (notation.format_code, CODE), (notation.format_word, [1, None]),
    (notation.format_word, []),
    (notation.parse_field, "field 5 0 1"), (notation.parse_field, "field 5"),
    (notation.parse_code, "field 5 0 1\nlength 2\nrow 3 1"),
    (notation.parse_code, "field 5 0 1\nlength 2\nrow 3"), (notation.parse_word, FIELD, "3 ?"),
    (notation.parse_word, FIELD, "5"),
    (report.parameters, CODE), (report.weight_table, CODE), (report.leader_table, PAIRS), (report.leader_table, ZERO),
    (SHOP.code_names,), (SHOP.code_of, "a"), (SHOP.code_of, "b"), (SHOP.received_words, "a"), (SHOP.answers, "a"),
    (SHOP.change_all, []),
    (SHOP.receive, "a", [5, 0, 0, 0]), (SHOP.add_code, "a", PARITY), (SHOP.replace_code, "a", PAIRS),
    (SHOP.remove_code, "b"),
    (SHOP.change_all, [("remove", "a"), ("all", [("receive", "a", [0, 0, 0, 0])])]),
]
SHOP.add_code("a", CODE)
SHOP.receive("a", [1, None, 2, 3])
SHOP.answers("a")
KEPT = (CODE, PARITY, ZERO, WHOLE, PAIRS, CHECKSUM, SYNDROMES, ERASURES, CYCLIC, VALUES, BCH, ENCODER, SILENT, PATHS,
        INTERLEAVED, PRODUCT, CONCATENATED, SHOP)


def state_of(value):
    """What an object tells of itself; anything else stays as it is."""
    if isinstance(value, linear.LinearCode):
        return (value.rows, value.pivots, value.checks, value.size, value.length, value.dimension)
    if isinstance(value, checksums.Checksum):
        return (value.generator, value.degree, value.remainder([1]), value.remainder_by_blocks([1], 2))
    if isinstance(value, decoding.SyndromeDecoder):
        every = words.all_words(value.code.field, value.code.length)
        return (state_of(value.code), [value.leaders_of(word) for word in every])
    if isinstance(value, decoding.ErasureDecoder):
        return (state_of(value.code), value.filled([0] * value.code.length))
    if isinstance(value, (cyclic.CyclicCode, bch.BchCode)):
        polys = (value.generator, getattr(value, "check_polynomial", None))
        return (polys, value.length, value.dimension, state_of(value.linear()), value.contains([1] * value.length))
    if isinstance(value, evaluation.EvaluationCode):
        return (
            value.points, value.length, value.dimension, state_of(value.linear()),
            value.corrected([1] * value.length),
        )
    if isinstance(value, convolution.Encoder):
        steps = [value.advance(state, bit) for state in range(value.state_count) for bit in (0, 1)]
        return (value.taps, value.memory, value.outputs, value.state_count, steps, value.word_for([1, 0, 1]))
    if isinstance(value, pathdecoder.PathDecoder):
        return (state_of(value.encoder), value.steps, value.costs, value.settled)
    if isinstance(value, (interleaving.InterleavedCode, products.ProductCode, concatenation.ConcatenatedCode)):
        names = "length depth burst_mended burst_filled width height distance dimension".split()
        return ([getattr(value, name, None) for name in names], state_of(value.linear()))
    if isinstance(value, fields.Field):
        return (value.prime, value.modulus)
    if isinstance(value, workshop.Workshop):
        told = [(state_of(value.code_of(name)), value.received_words(name)) for name in value.code_names()]
        return (value.code_names(), told, value.computed)
    return value


def outcome(call, arguments):
    """What the call returns, an object as its state; or the class of the error that it raises, and its words."""
    try:
        return state_of(call(*arguments))
    except Ambiguous as error:
        return (error.__class__, error.found)
    except Catastrophic as error:
        return (error.__class__, error.states)
    except CodeError as error:
        return error.__class__


class UnchangedTest(unittest.TestCase):
    def test_point_3_arguments_stay_as_they_are(self):
        before = [deep_copy(state_of(value)) for value in KEPT]
        for call, *arguments in CALLS:
            with self.subTest(call=call.__name__, arguments=arguments):
                given = deep_copy(arguments)
                first = outcome(call, given)
                self.assertEqual(given, arguments)
                self.assertEqual(outcome(call, given), first)
        self.assertEqual([state_of(value) for value in KEPT], before)

    def test_point_3_results_are_new_lists(self):
        before = [deep_copy(state_of(value)) for value in KEPT]
        for call, *arguments in CALLS:
            with self.subTest(call=call.__name__, arguments=arguments):
                given = deep_copy(arguments)
                result = outcome(call, given)
                kept = deep_copy(result)
                places = all_lists(result)
                self.assertEqual(len(places), len(set(places)))
                spoil(result)
                self.assertEqual(given, arguments)
                self.assertEqual(outcome(call, given), kept)
        self.assertEqual([state_of(value) for value in KEPT], before)

    def test_point_3_objects_give_new_lists_each_time(self):
        for value in KEPT:
            before = deep_copy(state_of(value))
            told = state_of(value)
            places = all_lists(told)
            self.assertEqual(len(places), len(set(places)))
            spoil(told)
            self.assertEqual(state_of(value), before)

    def test_point_3_objects_copy_what_they_are_given(self):
        rows = deep_copy(ROWS)
        for make in (linear.LinearCode, linear.code_from_checks):
            code = make(FIELD, 3, rows)
            before = deep_copy(state_of(code))
            spoil(rows)
            self.assertEqual(state_of(code), before)
            rows = deep_copy(ROWS)
        generator = [1, 1, 0, 1]
        checksum = checksums.Checksum(generator)
        spoil(generator)
        self.assertEqual(state_of(checksum), state_of(CHECKSUM))
        poly, points = [3, 1], [0, 1, 2, 3, 4]
        made = [cyclic.CyclicCode(FIELD, 4, poly), evaluation.EvaluationCode(FIELD, points, 2)]
        spoil([poly, points])
        self.assertEqual([state_of(code) for code in made], [state_of(CYCLIC), state_of(VALUES)])
        received = [1, None, 2, 3]
        shop = workshop.Workshop()
        shop.change_all([("add", "a", CODE), ("receive", "a", received)])
        spoil(received)
        self.assertEqual(shop.received_words("a"), [[1, None, 2, 3]])
        taps = [[1, 0, 1], [1, 1, 0]]
        encoder = convolution.Encoder(taps)
        spoil(taps)
        self.assertEqual(state_of(encoder), state_of(ENCODER))
        order, positions = [3, 1, 0, 2], [1]
        made = [changes.permuted(CODE, order), changes.shortened(CODE, positions), changes.punctured(CODE, positions)]
        before = [deep_copy(state_of(code)) for code in made]
        spoil(order)
        spoil(positions)
        self.assertEqual([state_of(code) for code in made], before)
