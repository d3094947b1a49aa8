"""Ranks of matrices and systems of equations over every field.

All answers come from the diagonal form: with U * matrix * V = D, a system with
the numbers b is the system D with U * b, whose solutions V turns back.
"""

from everyfield.chars import Chars, where_units
from everyfield.diagonal import diagonal, divisors, on_diagonal
from everyfield.errors import BadNumber, NoInverse, NoSolution, UnlikeShapes
from everyfield.matrices import Matrix, check_square, shape_of
from everyfield.whole import apart, checked, common, common_of, padded, remainder


def _check_length(matrix, b):
    if len(b) != matrix.height:
        raise UnlikeShapes(shape_of(matrix), len(b))


def _check_number(n):
    if n < 1:
        raise BadNumber(n)


def _all_in(numbers, p):
    """The list of the integers that stand for the numbers in the characteristic p."""
    return [remainder(n, p) for n in numbers]


def _units_in(numbers, p):
    """The numbers of a diagonal form that are not 0 in the characteristic p: the first ones, as all divide the next."""
    return [n for n in numbers if remainder(n, p) != 0]


def rank(matrix, *, p):
    """The rank of the matrix in the characteristic p."""
    checked(p)
    return len(_units_in(divisors(matrix), p))


def rank_where(matrix):
    """A dictionary: for each rank in some characteristic, the set of the characteristics with this rank."""
    numbers = divisors(matrix)
    found = {}
    lower = Chars.none()
    before = 1
    for k, n in enumerate(numbers):
        # Here the number with the index k is the first one that is 0.
        here = Chars.zero_of(apart(n, before))
        if here:
            found[k] = here
        lower = lower | here
        before = n
    found[len(numbers)] = ~lower
    return found


def solvable(matrix, b):
    """The set of the characteristics in which the system has a solution."""
    _check_length(matrix, b)
    first, middle, _ = diagonal(matrix)
    numbers = _units_in(on_diagonal(middle), 0)
    known = first.times(b)
    # An equation n * x = m has no solution exactly where n is 0, but m is not.
    barred = [apart(n, m) for n, m in zip(numbers, known)]
    left = common_of(known[len(numbers):])
    if left == 0:
        return where_units(barred)
    for n in barred:
        left = apart(left, n)
    return Chars.zero_of(left)


def _barring_index(known, size, p):
    """The index of the first equation 0 * x = n of a form of this rank where n is not 0, or None."""
    for at in range(size, len(known)):
        if remainder(known[at], p) != 0:
            return at
    return None


def solution(matrix, b, *, p):
    """A tuple (numbers, d), where the numbers divided by d are a solution in the characteristic p."""
    checked(p)
    _check_length(matrix, b)
    first, middle, last = diagonal(matrix)
    units = _units_in(on_diagonal(middle), p)
    known = first.times(b)
    if _barring_index(known, len(units), p) is not None:
        raise NoSolution()
    # The last one is divided by all others, so it serves all equations.
    d = units[-1] if units else 1
    found = [d // n * m for n, m in zip(units, known)]
    return _all_in(last.times(padded(found, matrix.width)), p), remainder(d, p)


def barring(matrix, b, *, p):
    """A list of integers that shows that the system has no solution in the characteristic p, or None."""
    checked(p)
    _check_length(matrix, b)
    first, middle, _ = diagonal(matrix)
    at = _barring_index(first.times(b), len(_units_in(on_diagonal(middle), p)), p)
    if at is None:
        return None
    return _all_in(first.rows[at], p)


def kernel(matrix, *, p):
    """A basis of the solutions for b = 0 in the characteristic p, as a list of lists."""
    checked(p)
    _, middle, last = diagonal(matrix)
    size = len(_units_in(on_diagonal(middle), p))
    return [_all_in(column, p) for column in last.transposed().rows[size:]]


def invertible(matrix):
    """The set of the characteristics in which a square matrix has an inverse."""
    check_square(matrix)
    return rank_where(matrix).get(matrix.height, Chars.none())


def inverse(matrix, *, p):
    """A tuple (other, d), where the matrix other divided by d is the inverse in the characteristic p."""
    checked(p)
    check_square(matrix)
    first, middle, last = diagonal(matrix)
    units = _units_in(on_diagonal(middle), p)
    if len(units) < matrix.height:
        raise NoInverse()
    d = units[-1]
    turned = Matrix.diagonal([d // n for n in units], matrix.height, matrix.width)
    found = last * turned * first
    return Matrix([_all_in(row, p) for row in found.rows]), remainder(d, p)


def solvable_by(matrix, b, n):
    """True if the system has a solution up to multiples of n."""
    _check_number(n)
    _check_length(matrix, b)
    first, middle, _ = diagonal(matrix)
    numbers = padded(on_diagonal(middle), matrix.height)
    return all([m % common(d, n) == 0 for d, m in zip(numbers, first.times(b))])


def how_many_by(matrix, n):
    """How many solutions for b = 0 up to multiples of n there are among the integers from 0 to n - 1."""
    _check_number(n)
    found = 1
    for d in padded(divisors(matrix), matrix.width):
        found = found * common(d, n)
    return found
