"""Points 109 to 112: product codes."""

import itertools
import random
import unittest

from nearestword.distances import minimum_distance
from nearestword.errors import InvalidCode, InvalidWord, NotInCode, TooLarge, TooManyErrors
from nearestword.families import hamming_code, parity_code, repetition_code, simplex_code, whole_code, zero_code
from nearestword.fields import Field, standard_field
from nearestword.linear import LinearCode
from nearestword.products import ProductCode
from tests.support import every_word, random_rows, slow_cost, weight

TWO = Field(2)
THREE = Field(3)
FOUR = Field(2, (1, 1, 1))
# The pivots of these codes are not their first positions.
LATE = LinearCode(TWO, 4, [[0, 1, 1, 0], [0, 0, 0, 1]])
LATER = LinearCode(THREE, 3, [[0, 1, 2]])


def small_products():
    yield ProductCode(parity_code(TWO, 3), parity_code(TWO, 3))
    yield ProductCode(parity_code(TWO, 4), repetition_code(TWO, 3))
    yield ProductCode(repetition_code(TWO, 3), parity_code(TWO, 3))
    yield ProductCode(LATE, parity_code(TWO, 3))
    yield ProductCode(parity_code(TWO, 3), LATE)
    yield ProductCode(LATER, parity_code(THREE, 3))
    yield ProductCode(repetition_code(THREE, 2), LATER)
    yield ProductCode(whole_code(TWO, 1), whole_code(TWO, 1))
    yield ProductCode(whole_code(TWO, 2), repetition_code(TWO, 4))
    yield ProductCode(simplex_code(TWO, 2), simplex_code(TWO, 2))
    yield ProductCode(repetition_code(FOUR, 3), whole_code(FOUR, 2))
    yield ProductCode(hamming_code(TWO, 3), repetition_code(TWO, 3))
    yield ProductCode(LinearCode(FOUR, 3, random_rows(4, FOUR, 2, 3)), repetition_code(FOUR, 2))


def large_products():
    source = [(16, 9, 3, 2), (7, 6, 3, 3), (4, 12, 4, 5), (2, 15, 4, 6), (31, 20, 2, 2), (3, 8, 5, 6)]
    for at, (order, length, row_dimension, column_dimension) in enumerate(source):
        field = standard_field(order)
        rows = LinearCode(field, length, random_rows(at, field, row_dimension, length))
        columns = LinearCode(
            field,
            min(12, 255 // length),
            random_rows(-at, field, column_dimension, min(12, 255 // length)),
        )
        yield ProductCode(rows, columns)


def messages_of_kind(product):
    field = product.row_code.field
    flat = every_word(field, product.row_code.dimension * product.column_code.dimension)
    k = product.row_code.dimension
    return [[word[at:at + k] for at in range(0, len(word), k)] for word in flat]


def all_matrices(product):
    """All matrices both of whose codes accept every line, found without the messages."""
    rows = itertools.product(product.row_code.words(), repeat=product.height)
    columns = {tuple(word) for word in product.column_code.words()}
    return [list(map(list, matrix)) for matrix in rows if all(column in columns for column in zip(*matrix))]


def matrix_cost(matrix, received):
    return sum(slow_cost(row, told) for row, told in zip(matrix, received))


def some_messages(source, product):
    order = product.row_code.field.order
    width = product.row_code.dimension
    return [[source.randrange(order) for _ in range(width)] for _ in range(product.column_code.dimension)]


def spoiled(product, matrix, errors, erased, source):
    """The matrix with another item at some places, and with other places erased."""
    received = [list(row) for row in matrix]
    order = product.row_code.field.order
    for down, along in errors:
        received[down][along] = (matrix[down][along] + source.randrange(1, order)) % order
    for down, along in erased:
        received[down][along] = None
    return received


class ProductCodeTest(unittest.TestCase):
    def test_points_109_and_110_every_matrix(self):
        for product in small_products():
            matrices = []
            for messages in messages_of_kind(product):
                matrix = product.matrix_for(messages)
                self.assertEqual((len(matrix), {len(row) for row in matrix}), (product.height, {product.width}))
                down, along = product.column_code.pivots, product.row_code.pivots
                self.assertEqual([[matrix[i][j] for j in along] for i in down], messages)
                self.assertTrue(product.contains(matrix))
                self.assertEqual(product.messages_of(matrix), messages)
                matrices.append(matrix)
            if len(product.row_code.words()) ** product.height <= 5000:
                self.assertEqual(sorted(matrices), all_matrices(product))
            flat = sorted([item for row in matrix for item in row] for matrix in matrices)
            if len(flat) <= 4096:
                self.assertEqual(product.linear().words(), flat)
            self.assertIs(product.linear().field, product.row_code.field)

    def test_point_109_matrices_that_do_not_belong(self):
        product = ProductCode(parity_code(TWO, 3), parity_code(TWO, 3))
        for matrix in (
            [[1, 1, 0], [0, 0, 0], [0, 0, 0]], [[1, 0, 0], [1, 0, 0], [0, 0, 0]], [[0] * 3, [0] * 3, [0, 0, 1]],
        ):
            self.assertFalse(product.contains(matrix))
            with self.assertRaises(NotInCode):
                product.messages_of(matrix)
        self.assertTrue(product.contains([[1, 1, 0], [1, 1, 0], [0, 0, 0]]))

    def test_point_109_attributes(self):
        row_code, column_code = parity_code(TWO, 5), repetition_code(TWO, 3)
        product = ProductCode(row_code, column_code)
        self.assertIs(product.row_code, row_code)
        self.assertIs(product.column_code, column_code)
        self.assertEqual((product.width, product.height, product.distance), (5, 3, 6))

    def test_point_109_wrong_codes(self):
        other = Field(2, (1, 1))
        for row_code, column_code in (
            (parity_code(TWO, 3), parity_code(THREE, 3)), (parity_code(TWO, 3), parity_code(other, 3)),
            (parity_code(FOUR, 3), parity_code(TWO, 3)), (zero_code(TWO, 3), parity_code(TWO, 3)),
            (parity_code(TWO, 3), zero_code(TWO, 3)), (parity_code(TWO, 1), parity_code(TWO, 3)),
            (repetition_code(TWO, 16), repetition_code(TWO, 16)), (repetition_code(TWO, 128), repetition_code(TWO, 2)),
            # Each of these also has a code with too many words.
            (whole_code(TWO, 13), zero_code(TWO, 2)), (zero_code(TWO, 2), whole_code(TWO, 13)),
            (whole_code(TWO, 13), whole_code(THREE, 2)), (whole_code(TWO, 20), repetition_code(TWO, 13)),
        ):
            with self.assertRaises(InvalidCode):
                ProductCode(row_code, column_code)
        same = ProductCode(parity_code(Field(5), 3), parity_code(Field(5), 2))
        self.assertEqual(same.distance, 4)

    def test_point_109_limits(self):
        for row_code, column_code in (
            (repetition_code(TWO, 17), repetition_code(TWO, 15)), (repetition_code(TWO, 255), whole_code(TWO, 1)),
            (whole_code(TWO, 1), repetition_code(TWO, 255)), (repetition_code(TWO, 85), repetition_code(TWO, 3)),
        ):
            product = ProductCode(row_code, column_code)
            self.assertEqual((product.width * product.height, product.distance), (255, 255))
            self.assertEqual(product.linear().dimension, 1)
        for big in (
            whole_code(TWO, 12), whole_code(FOUR, 6), whole_code(THREE, 7), repetition_code(standard_field(256), 2),
        ):
            self.assertLessEqual(big.size, 4096)
            ProductCode(big, repetition_code(big.field, 2))
            ProductCode(repetition_code(big.field, 2), big)
        for big in (whole_code(TWO, 13), whole_code(THREE, 8), whole_code(standard_field(256), 2)):
            self.assertGreater(big.size, 4096)
            for pair in ((big, repetition_code(big.field, 2)), (repetition_code(big.field, 2), big), (big, big)):
                with self.assertRaises(TooLarge):
                    ProductCode(*pair)

    def test_point_110_wrong_messages(self):
        product = ProductCode(LATER, parity_code(THREE, 3))
        for messages in (
            [], [[1]], [[1], [2], [0]], [[1], []], [[1, 0], [1]], [[1], [3]], [[-1], [1]], [[None], [1]], [[], []],
        ):
            with self.assertRaises(InvalidWord):
                product.matrix_for(messages)
        self.assertEqual(product.matrix_for([[1], [2]]), [[0, 1, 2], [0, 2, 1], [0, 0, 0]])

    def test_points_109_and_112_wrong_matrices(self):
        product = ProductCode(parity_code(THREE, 3), LATER)
        far = [[1, 1, 0], [0, 0, 0], [0, 0, 1]]
        self.assertFalse(product.contains(far))
        wrong = [
            [], far[:2], far + [[0, 0, 0]], [far[0], far[1], []], [far[0], far[1], [0, 0]], [[0, 0, 0, 0]] + far[1:],
            [[3, 1, 0]] + far[1:], far[:2] + [[0, 0, -1]], [[], [], []], [[1, 1], [1], [0] * 6], [[10 ** 20] * 3] * 3,
        ]
        for matrix in wrong:
            for call in (product.contains, product.messages_of, product.corrected):
                with self.subTest(matrix=matrix, call=call.__name__):
                    with self.assertRaises(InvalidWord):
                        call(matrix)
        for matrix in ([[None, 1, 0]] + far[1:], far[:2] + [[0, 0, None]]):
            for call in (product.contains, product.messages_of):
                with self.assertRaises(InvalidWord):
                    call(matrix)
        with self.assertRaises(InvalidWord):
            product.corrected([[None] * 3] * 2 + [[None, None, 3]])

    def test_point_111_distance(self):
        for product in small_products():
            flat = product.linear()
            self.assertEqual(
                product.distance,
                minimum_distance(product.row_code) * minimum_distance(product.column_code),
            )
            if flat.size <= 4096:
                self.assertEqual(minimum_distance(flat), product.distance)

    def test_mended(self):
        product = ProductCode(parity_code(TWO, 3), repetition_code(TWO, 3))
        self.assertEqual([product.mended(erased) for erased in range(8)], [2, 2, 1, 1, 0, 0, -1, -1])
        self.assertEqual(ProductCode(whole_code(TWO, 1), whole_code(TWO, 1)).mended(0), 0)

    def check_corrected(self, product, matrices, received):
        near = [matrix for matrix in matrices if matrix_cost(matrix, received) < product.distance]
        self.assertLessEqual(len(near), 1)
        if near:
            self.assertEqual(product.corrected(received), near[0])
        else:
            with self.assertRaises(TooManyErrors):
                product.corrected(received)
        return bool(near)

    def test_point_112_every_received_matrix(self):
        for product in (
            ProductCode(parity_code(TWO, 3), repetition_code(TWO, 2)),
            ProductCode(repetition_code(TWO, 2), parity_code(TWO, 3)),
            ProductCode(repetition_code(THREE, 2), repetition_code(THREE, 2)),
            ProductCode(whole_code(TWO, 2), whole_code(TWO, 2)),
            ProductCode(repetition_code(TWO, 6), whole_code(TWO, 1)),
            ProductCode(whole_code(TWO, 1), repetition_code(TWO, 6)),
        ):
            matrices = all_matrices(product)
            items = [None] + product.row_code.field.all_elements()
            for flat in itertools.product(items, repeat=product.width * product.height):
                received = [list(flat[at:at + product.width]) for at in range(0, len(flat), product.width)]
                self.check_corrected(product, matrices, received)

    def test_point_112_random_received_matrices(self):
        source = random.Random(112)
        outcomes = [0, 0]
        for product in small_products():
            matrices = [product.matrix_for(messages) for messages in messages_of_kind(product)]
            places = list(itertools.product(range(product.height), range(product.width)))
            for _ in range(30):
                changed = source.sample(places, source.randrange(min(len(places), product.distance) + 1))
                cut = source.randrange(len(changed) + 1)
                received = spoiled(product, source.choice(matrices), changed[:cut], changed[cut:], source)
                outcomes[self.check_corrected(product, matrices, received)] += 1
        self.assertGreater(min(outcomes), 50)

    def patterns(self, product, source):
        """Places of errors and erased places whose cost is as great as it may be."""
        places = list(itertools.product(range(product.height), range(product.width)))
        for errors in sorted({0, 1, (product.distance - 1) // 4, (product.distance - 1) // 2}):
            erased = product.distance - 1 - 2 * errors
            if erased < 0 or errors + erased > len(places):
                continue
            for _ in range(3):
                chosen = source.sample(places, errors + erased)
                yield chosen[:errors], chosen[errors:]
            start = source.randrange(len(places) - errors - erased + 1)
            stretch = places[start:start + errors + erased]
            yield stretch[:errors], stretch[errors:]
            yield stretch[erased:], stretch[:erased]
            # The same places, one column after the other.
            down = sorted(places, key=lambda place: (place[1], place[0]))[start:start + errors + erased]
            yield down[:errors], down[errors:]

    def test_point_112_costs_just_below_the_distance(self):
        source = random.Random(1120)
        for product in itertools.chain(small_products(), large_products()):
            matrix = product.matrix_for(some_messages(source, product))
            for errors, erased in self.patterns(product, source):
                received = spoiled(product, matrix, errors, erased, source)
                self.assertEqual(matrix_cost(matrix, received), product.distance - 1 if errors or erased else 0)
                self.assertEqual(product.corrected(received), matrix)

    def test_point_112_costs_at_the_distance(self):
        source = random.Random(1121)
        failed = 0
        for product in itertools.chain(small_products(), large_products()):
            matrix = product.matrix_for(some_messages(source, product))
            places = list(itertools.product(range(product.height), range(product.width)))
            for errors in {0, product.distance // 2}:
                chosen = source.sample(places, product.distance - errors)
                received = spoiled(
                    product,
                    matrix,
                    chosen[:errors],
                    chosen[errors:][:product.distance - 2 * errors],
                    source,
                )
                if matrix_cost(matrix, received) < product.distance:
                    continue
                try:
                    other = product.corrected(received)
                except TooManyErrors:
                    failed += 1
                    continue
                self.assertNotEqual(other, matrix)
                self.assertTrue(product.contains(other))
                self.assertLess(matrix_cost(other, received), product.distance)
        self.assertGreater(failed, 10)

    def test_point_112_heavy_matrices_at_their_distance(self):
        for product in small_products():
            lightest = min(
                (product.matrix_for(messages) for messages in messages_of_kind(product)[1:]),
                key=lambda matrix: weight([item for row in matrix for item in row]),
            )
            # With all its items other than 0 erased, it is as near as the zero matrix, and too far.
            received = [[0 if item == 0 else None for item in row] for row in lightest]
            with self.assertRaises(TooManyErrors):
                product.corrected(received)

    def test_point_112_every_item_erased(self):
        for product in itertools.chain(small_products(), large_products()):
            with self.assertRaises(TooManyErrors):
                product.corrected([[None] * product.width for _ in range(product.height)])

    def test_point_112_rows_and_columns_together(self):
        # Neither the rows alone nor the columns alone lead to these matrices.
        product = ProductCode(repetition_code(TWO, 5), repetition_code(TWO, 5))
        zero = [[0] * 5 for _ in range(5)]
        received = [[1, 1, 1, 0, 0], [1, 1, 1, 0, 0], [0, 0, 1, 1, 1], [1, 0, 0, 0, 0], [1, 1, 0, 0, 0]]
        self.assertEqual(matrix_cost(zero, received), 24)
        self.assertEqual(product.corrected(received), zero)
        received[3][4] = None
        with self.assertRaises(TooManyErrors):
            product.corrected(received)
