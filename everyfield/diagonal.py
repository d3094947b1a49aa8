"""The diagonal form of a matrix of whole numbers."""

from itertools import combinations

from everyfield.errors import NoInverse
from everyfield.matrices import Matrix, check_square
from everyfield.whole import combination


def _lead(row):
    """The index of the first item that is not 0; there is one."""
    at = 0
    while row[at] == 0:
        at += 1
    return at


def _mixed(m, first, n, second):
    """The row m * first + n * second."""
    return [m * a + n * b for a, b in zip(first, second)]


def _cleared(first, second, at):
    """Two rows that begin at the index at, mixed so that the second one becomes 0 there."""
    a, b = first[at], second[at]
    # A row that divides the other one stays as it is: only so do the passes of diagonal come to an end.
    if b % a == 0:
        return first, _mixed(1, second, -(b // a), first)
    d, u, v = combination(a, b)
    return _mixed(u, first, v, second), _mixed(a // d, second, -(b // d), first)


def _lowered(row, stairs):
    """The row less multiples of the stairs, so that it is small where they begin."""
    for stair in stairs:
        lead = _lead(stair)
        times = row[lead] // stair[lead]
        if times != 0:
            row = _mixed(1, row, -times, stair)
    return row


def _all_lowered(stairs):
    """The stairs, each less multiples of those below it."""
    found = []
    for stair in reversed(stairs):
        found = [_lowered(stair, found)] + found
    return found


def _with_row(stairs, row):
    """Stairs with one more row: rows with ascending leads, above 0 there, that mix to the same rows.

    The row is lowered at each step, since its items would soon have very many digits otherwise.
    """
    upper, lower = [], stairs
    while lower and _lead(lower[0]) <= _lead(row):
        stair, lower = lower[0], lower[1:]
        if _lead(stair) == _lead(row):
            stair, row = _cleared(stair, row, _lead(stair))
            row = _lowered(row, lower)
        upper.append(stair)
    if row[_lead(row)] < 0:
        row = [-n for n in row]
    return _all_lowered(upper + [row] + lower)


def _as_stairs(matrix):
    """A tuple (by, found), where found is by * matrix in the form of stairs, and by can be undone."""
    stairs = []
    # The columns behind those of the matrix keep how its rows were mixed.
    for row in matrix.beside(Matrix.unit(matrix.height)).rows:
        stairs = _with_row(stairs, row)
    by = Matrix([row[matrix.width:] for row in stairs])
    return by, Matrix([row[:matrix.width] for row in stairs])


def _passed(first, middle, last):
    """The three matrices after a pass over the rows and one over the columns of the middle one."""
    by, stairs = _as_stairs(middle)
    after, columns = _as_stairs(stairs.transposed())
    return by * first, columns.transposed(), last * after.transposed()


def on_diagonal(matrix):
    """The list of the items of a matrix at (0, 0), (1, 1) and so on."""
    return [matrix.rows[k][k] for k in range(min(matrix.height, matrix.width))]


def _is_diagonal(matrix):
    """True if the matrix is 0 elsewhere."""
    return matrix == Matrix.diagonal(on_diagonal(matrix), matrix.height, matrix.width)


def _chained(first, middle, last):
    """The three matrices of a diagonal form, made from some whose numbers need not divide one another."""
    numbers = on_diagonal(middle)
    size = len(numbers)
    rows, columns = list(first.rows), list(last.transposed().rows)
    for i, k in combinations(range(size), 2):
        d, u, v = combination(numbers[i], numbers[k])
        if d != numbers[i]:
            # Both steps have the determinant 1; together they put d and a * b * d in the place of a * d and b * d.
            a, b = numbers[i] // d, numbers[k] // d
            numbers[i], numbers[k] = d, a * b * d
            rows[i], rows[k] = _mixed(u, rows[i], v, rows[k]), _mixed(-b, rows[i], a, rows[k])
            left, right = columns[i], columns[k]
            columns[i], columns[k] = _mixed(1, left, 1, right), _mixed(-b * v, left, a * u, right)
    found = Matrix.diagonal(numbers, middle.height, middle.width)
    return Matrix(rows), found, Matrix(columns).transposed()


def diagonal(matrix):
    """The tuple (U, D, V), where D is U * matrix * V in the diagonal form."""
    first, middle, last = _passed(Matrix.unit(matrix.height), matrix, Matrix.unit(matrix.width))
    while not _is_diagonal(middle):
        first, middle, last = _passed(first, middle, last)
    return _chained(first, middle, last)


def _can_be_undone(matrix, size):
    """True if the matrix has this many rows and columns, and the determinant 1 or -1."""
    return matrix.height == size and matrix.width == size and abs(matrix.determinant()) == 1


def _is_divided(n, d):
    """True if the integer d divides n; 0 divides only 0."""
    return n == 0 or (d != 0 and n % d == 0)


def _is_form(matrix):
    """True if the matrix is diagonal, and its numbers are not negative and divide one another."""
    numbers = on_diagonal(matrix)
    if not _is_diagonal(matrix) or min(numbers) < 0:
        return False
    return all([_is_divided(n, d) for d, n in zip(numbers, numbers[1:])])


def shown(matrix, first, middle, last):
    """True if the other three matrices show the diagonal form of the first one."""
    if not _can_be_undone(first, matrix.height) or not _can_be_undone(last, matrix.width):
        return False
    return middle == first * matrix * last and _is_form(middle)


def divisors(matrix):
    """The list of the numbers of the diagonal form that are not 0."""
    middle = diagonal(matrix)[1]
    return [n for n in on_diagonal(middle) if n != 0]


def undone(matrix):
    """The inverse of a square matrix with the determinant 1 or -1."""
    check_square(matrix)
    first, middle, last = diagonal(matrix)
    # Only the determinants 1 and -1 have the unit matrix as their form.
    if middle != Matrix.unit(matrix.height):
        raise NoInverse()
    return last * first
