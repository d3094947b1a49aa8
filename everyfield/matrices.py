"""Matrices of whole numbers, read in every field."""

from itertools import combinations

from everyfield.errors import BadRow, BadText, NotSquare, UnlikeShapes
from everyfield.whole import sum_of_products
from everyfield.words import is_integer


def shape_of(matrix):
    """The tuple (height, width)."""
    return matrix.height, matrix.width


def check_square(matrix):
    """Raises NotSquare if the matrix has not as many rows as columns."""
    if matrix.height != matrix.width:
        raise NotSquare(matrix.height, matrix.width)


def _top_at(rows):
    """The index of the first row that does not begin with 0, or None."""
    for at, row in enumerate(rows):
        if row[0] != 0:
            return at
    return None


def _without_top(rows, at, before):
    """The rows without row at and without the first column, cleared by that row."""
    top = rows[at]
    others = rows[:at] + rows[at + 1:]
    # Each of these items is a minor of the first matrix times before, so nothing is lost by the division.
    return [[(top[0] * row[k] - row[0] * top[k]) // before for k in range(1, len(row))] for row in others]


def _determinant(rows):
    """The determinant of as many rows as columns."""
    sign, before = 1, 1
    while len(rows) > 1:
        at = _top_at(rows)
        if at is None:
            return 0
        # The row moves to the top across as many rows as its index says.
        if at % 2 == 1:
            sign = -sign
        rows, before = _without_top(rows, at, before), rows[at][0]
    return sign * rows[0][0]


class Matrix:
    """A matrix of integers, which never changes."""

    def __init__(self, rows):
        for at, row in enumerate(rows):
            if len(row) != len(rows[0]):
                raise BadRow(at)
        self.rows = tuple([tuple(row) for row in rows])
        self.height = len(rows)
        self.width = len(rows[0])

    @classmethod
    def unit(cls, n):
        """The matrix of n rows and columns with 1 where row and column are equal, and 0 elsewhere."""
        return cls.diagonal([1] * n, n, n)

    @classmethod
    def diagonal(cls, numbers, height, width):
        """The matrix with these numbers at (0, 0), (1, 1) and so on, and 0 elsewhere."""
        rows = [[0] * width for _ in range(height)]
        for k, n in enumerate(numbers):
            rows[k][k] = n
        return cls(rows)

    @classmethod
    def read(cls, text):
        """The matrix with a text like that of str."""
        parts = text.split(" ")
        for at, part in enumerate(parts):
            if not is_integer(part.removesuffix(";")):
                raise BadText(at)
        if parts[-1].endswith(";"):
            raise BadText(len(parts))
        return cls([[int(word) for word in row.split(" ")] for row in text.split("; ")])

    def __add__(self, other):
        if shape_of(self) != shape_of(other):
            raise UnlikeShapes(shape_of(self), shape_of(other))
        return Matrix([
            [m + n for m, n in zip(mine, others)] for mine, others in zip(self.rows, other.rows)
        ])

    def __sub__(self, other):
        return self + -other

    def __neg__(self):
        return self.scaled(-1)

    def __mul__(self, other):
        if self.width != other.height:
            raise UnlikeShapes(shape_of(self), shape_of(other))
        columns = other.transposed().rows
        return Matrix([[sum_of_products(row, column) for column in columns] for row in self.rows])

    def __eq__(self, other):
        return isinstance(other, Matrix) and self.rows == other.rows

    def __str__(self):
        return "; ".join([" ".join([str(n) for n in row]) for row in self.rows])

    def scaled(self, n):
        """The matrix with each item multiplied by the integer n."""
        return Matrix([[n * item for item in row] for row in self.rows])

    def transposed(self):
        """The matrix with rows and columns exchanged."""
        return Matrix([[row[k] for row in self.rows] for k in range(self.width)])

    def part(self, rows, columns):
        """The matrix of the items in these rows and columns, in this order."""
        return Matrix([[self.rows[i][k] for k in columns] for i in rows])

    def beside(self, other):
        """The matrix with the columns of the other one behind its own."""
        if self.height != other.height:
            raise UnlikeShapes(shape_of(self), shape_of(other))
        return Matrix([mine + others for mine, others in zip(self.rows, other.rows)])

    def determinant(self):
        """The determinant of a square matrix."""
        check_square(self)
        return _determinant(list(self.rows))

    def minors(self, size):
        """The determinants of all square parts of this size, by their rows and then by their columns."""
        return [
            self.part(rows, columns).determinant()
            for rows in combinations(range(self.height), int(size))
            for columns in combinations(range(self.width), int(size))
        ]

    def times(self, vector):
        """The list of the sums of the products of the items of each row and of the vector."""
        if len(vector) != self.width:
            raise UnlikeShapes(shape_of(self), len(vector))
        return [sum_of_products(row, vector) for row in self.rows]
