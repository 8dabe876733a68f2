"""Products of two linear codes."""

from nearestword.distances import minimum_distance
from nearestword.doubts import cost_beside, doubt_among, kept, thresholds_of
from nearestword.errors import InvalidCode, InvalidWord, NotInCode, TooManyErrors
from nearestword.limits import require_length
from nearestword.linear import LinearCode
from nearestword.matrices import transpose
from nearestword.words import require_received


def _require_factors(row_code, column_code):
    """Raises InvalidCode if the two codes have no product."""
    if not row_code.field.same_as(column_code.field):
        raise InvalidCode("the fields are not the same")
    if row_code.dimension == 0 or column_code.dimension == 0:
        raise InvalidCode("a code has the dimension 0")
    require_length(row_code.length * column_code.length)


class ProductCode:
    """The matrices whose rows are words of one code and whose columns are words of another one."""

    def __init__(self, row_code, column_code):
        _require_factors(row_code, column_code)
        self.row_code = row_code
        self.column_code = column_code
        self.width = row_code.length
        self.height = column_code.length
        self._row_distance = minimum_distance(row_code)
        self._column_distance = minimum_distance(column_code)
        self.distance = self._row_distance * self._column_distance

    def _require_height(self, matrix):
        """Raises InvalidWord if the matrix has another number of rows."""
        if len(matrix) != self.height:
            raise InvalidWord(f"the matrix has not {self.height} rows")

    def matrix_for(self, messages):
        """The matrix for the messages."""
        rows = [self.row_code.word_for(message) for message in messages]
        # The columns are messages of the column code exactly if there are as many rows as its dimension.
        columns = [self.column_code.word_for(column) for column in transpose(rows, self.width)]
        return transpose(columns, self.height)

    def contains(self, matrix):
        """Tells whether the matrix belongs to the product code."""
        self._require_height(matrix)
        # Every row is asked for, so that each one that is no word of the length is found.
        if not all([self.row_code.contains(row) for row in matrix]):
            return False
        return all([self.column_code.contains(column) for column in transpose(matrix, self.width)])

    def messages_of(self, matrix):
        """The messages of a matrix of the product code."""
        if not self.contains(matrix):
            raise NotInCode("the matrix does not belong to the product code")
        return [[matrix[down][along] for along in self.row_code.pivots] for down in self.column_code.pivots]

    def linear(self):
        """The linear code of the matrices, each one written row by row."""
        field = self.row_code.field
        rows = [
            [item for factor in column for item in field.multiple(factor, row)]
            for column in self.column_code.rows
            for row in self.row_code.rows
        ]
        return LinearCode(field, self.width * self.height, rows)

    def mended(self, erased):
        """The number of errors that are corrected for certain beside so many erased items."""
        return (self.distance - 1 - erased) // 2

    def corrected(self, received):
        """The matrix of the product code whose cost is below the distance."""
        self._require_height(received)
        for row in received:
            require_received(self.row_code.field, self.width, row)
        row_words = self.row_code.words()
        judged = [doubt_among(row_words, self._row_distance, row) for row in received]
        doubts = [doubt for _, doubt in judged]
        column_words = self.column_code.words()
        # If there is such a matrix, its columns are found with one of the thresholds: the sum over all of them
        # of twice the wrong rows plus the erased ones is at most the cost.
        for threshold in thresholds_of(doubts, self._row_distance):
            near = kept(doubts, threshold)
            rows = [row if at in near else [None] * self.width for at, (row, _) in enumerate(judged)]
            matrix = self._with_columns_near(column_words, rows)
            if matrix is not None and self.contains(matrix) and self._cost(matrix, received) < self.distance:
                return matrix
        raise TooManyErrors("no matrix of the product code is near enough")

    def _with_columns_near(self, column_words, rows):
        """The matrix of the column code's words within reach of the columns, None if there is none for one."""
        columns = []
        for column in transpose(rows, self.width):
            word, _ = doubt_among(column_words, self._column_distance, column)
            if word is None:
                return None
            columns.append(word)
        return transpose(columns, self.height)

    def _cost(self, matrix, received):
        """The sum of the costs of the rows."""
        return sum([cost_beside(row, told) for row, told in zip(matrix, received)])
