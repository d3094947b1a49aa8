"""Which columns of a matrix are independent, and in which characteristics."""

from itertools import combinations

from everyfield.chars import Chars
from everyfield.diagonal import divisors
from everyfield.errors import BadStep, UnlikeShapes
from everyfield.matrices import Matrix, shape_of
from everyfield.systems import kernel, rank, rank_where
from everyfield.whole import checked, remainder


def _part_of(matrix, columns):
    """The matrix of these columns, of which there is at least one."""
    return matrix.part(list(range(matrix.height)), columns)


def _is_independent(matrix, columns, p):
    """What independent says for one characteristic p, which is checked already."""
    if not columns:
        return True
    numbers = divisors(_part_of(matrix, columns))
    # The last number is divided by all others, so it is 0 wherever one of them is.
    return len(numbers) == len(columns) and remainder(numbers[-1], p) != 0


def _lists_of(matrix, size):
    """All lists of so many columns, as ascending lists in ascending order of lists."""
    return [list(columns) for columns in combinations(range(matrix.width), int(size))]


def _all_lists(matrix):
    """All lists of columns as ascending lists, those with the fewest columns first."""
    return [columns for size in range(matrix.width + 1) for columns in _lists_of(matrix, size)]


def _is_basis(matrix, columns, p):
    """True if the columns are a basis in the characteristic p."""
    return len(columns) == rank(matrix, p=p) and _is_independent(matrix, columns, p)


def independent(matrix, columns):
    """The set of the characteristics in which the columns are independent."""
    if not columns:
        return Chars.every()
    return rank_where(_part_of(matrix, columns)).get(len(columns), Chars.none())


def bases(matrix, *, p):
    """All bases in the characteristic p as ascending lists, in ascending order."""
    size = rank(matrix, p=p)
    return [columns for columns in _lists_of(matrix, size) if _is_independent(matrix, columns, p)]


def _has_part(columns, lists):
    """True if the columns have all those of one of the lists."""
    return any([all([k in columns for k in part]) for part in lists])


def circuits(matrix, *, p):
    """All dependent lists without a lesser dependent one in the characteristic p, in ascending order."""
    checked(p)
    found = []
    for columns in _all_lists(matrix):
        if not _has_part(columns, found) and not _is_independent(matrix, columns, p):
            found.append(columns)
    return sorted(found)


def _kept(matrix, order, p):
    """Of the columns in this order, those that are not spanned by the ones before them in the characteristic p."""
    found = []
    for k in order:
        if _is_independent(matrix, [*found, k], p):
            found = [*found, k]
    return found


def spanned(matrix, columns, *, p):
    """The ascending list of the columns that are in the list or do not raise its rank in the characteristic p."""
    checked(p)
    base = _kept(matrix, columns, p)
    return [k for k in range(matrix.width) if k in columns or not _is_independent(matrix, [*base, k], p)]


def exchange(matrix, first, second, out, *, p):
    """The least column of the second basis that takes the place of a column of the first one."""
    checked(p)
    for at, columns in enumerate([first, second]):
        if not _is_basis(matrix, columns, p):
            raise BadStep(at)
    if out not in first:
        raise BadStep(2)
    rest = [k for k in first if k != out]
    return min([k for k in second if _is_independent(matrix, [*rest, k], p)])


def heaviest(matrix, weights, *, p):
    """The basis with the greatest sum of weights in the characteristic p, the first one if there are several."""
    checked(p)
    if len(weights) != matrix.width:
        raise UnlikeShapes(shape_of(matrix), len(weights))
    # Of equal weights the first one stays in front, so the first basis is found.
    order = sorted(range(matrix.width), key=lambda k: -weights[k])
    return sorted(_kept(matrix, order, p))


def same_columns(first, second):
    """The set of the characteristics in which the same lists of columns are independent in both matrices."""
    if first.width != second.width:
        raise UnlikeShapes(shape_of(first), shape_of(second))
    found = Chars.every()
    for columns in _all_lists(first):
        here, there = independent(first, columns), independent(second, columns)
        if here != there:
            found = found - ((here - there) | (there - here))
    return found


def changes(matrix):
    """The ascending list of the primes where other lists of columns are independent than in the characteristic 0."""
    # A list that is independent in 0 is part of a basis, and dependent only where the basis is.
    primes = [p for columns in bases(matrix, p=0) for p in independent(matrix, columns).primes]
    return sorted(set(primes))


def never_changes(matrix):
    """True if the same lists of columns are independent in all characteristics."""
    return not changes(matrix)


def bad_square(matrix):
    """The rows and columns of the first square part whose determinant is none of 0, 1 and -1, or None."""
    for size in range(1, min(matrix.height, matrix.width) + 1):
        for rows in combinations(range(matrix.height), size):
            for columns in combinations(range(matrix.width), size):
                if abs(matrix.part(rows, columns).determinant()) > 1:
                    return list(rows), list(columns)
    return None


def dual(matrix, *, p):
    """A matrix whose bases in the characteristic p are what the bases of this one leave out."""
    # Without solutions there is one basis, and it leaves nothing out.
    return Matrix(kernel(matrix, p=p) or [[0] * matrix.width])
