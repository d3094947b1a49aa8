"""Tests of points 7.1 to 7.9, of 0.4 to 0.6 for columns, and of the examples of everyfield/matroids.py."""

import random
import unittest
from itertools import combinations, permutations

from plain import (
    LIMIT_PRIME, NO_CHARACTERISTICS, chars_where, determinant, primes_of_minors, raised, rank as plain_rank,
)

from everyfield.chars import Chars
from everyfield.matrices import Matrix
from everyfield.matroids import (
    bad_square, bases, changes, circuits, dual, exchange, heaviest, independent, never_changes, same_columns, spanned,
)

LONG = 12345678901234567890
PLANE = Matrix([[1, 0, 1, 1], [0, 1, 1, -1]])
# The quadrangle with its three corners, which are on one line in the characteristic 2 alone.
CORNERS = Matrix([[1, 0, 0, 1, 1, 0, 1], [0, 1, 0, 1, 0, 1, 1], [0, 0, 1, 0, 1, 1, 1]])
ZEROS = Matrix([[0, 0, 0], [0, 0, 0]])
SMALL = [0, 2, 3, 5, 7]


def lists_of(width):
    """All ascending lists of columns, in ascending order of lists."""
    return sorted(list(columns) for size in range(width + 1) for columns in combinations(range(width), size))


def rank_of(rows, columns, p):
    return plain_rank([[row[k] for k in columns] for row in rows], p) if columns else 0


def is_independent(rows, columns, p):
    return rank_of(rows, columns, p) == len(columns)


def bases_of(rows, p):
    size = plain_rank(rows, p)
    return [columns for columns in lists_of(len(rows[0])) if len(columns) == size and is_independent(rows, columns, p)]


def any_matrices(seed, count, most=3):
    """Rows of many shapes, some with columns that are 0 or multiples of one another."""
    chance = random.Random(seed)
    for _ in range(count):
        height, width = chance.randint(1, 4), chance.randint(1, 5)
        rows = [[chance.randint(-most, most) for _ in range(width)] for _ in range(height)]
        if chance.randint(0, 2) == 0:
            times, k = chance.choice([0, 1, 2, -3]), chance.randrange(width)
            for row in rows:
                row[-1] = times * row[k]
        yield rows


class TestIndependent(unittest.TestCase):
    def test_values(self):
        self.assertEqual(str(independent(PLANE, [2, 3])), "all but 2")
        self.assertEqual(str(independent(PLANE, [3, 2])), "all but 2")
        self.assertEqual(str(independent(PLANE, [0, 1, 2])), "primes")
        self.assertEqual(str(independent(PLANE, [3])), "all but")
        self.assertEqual(str(independent(CORNERS, [3, 4, 5])), "all but 2")
        self.assertEqual(str(independent(CORNERS, [5, 4, 3])), "all but 2")
        self.assertEqual(str(independent(CORNERS, [0, 1, 3])), "primes")
        self.assertEqual(str(independent(Matrix([[6], [10]]), [0])), "all but 2")
        self.assertEqual(str(independent(Matrix([[LIMIT_PRIME, 1]]), [0])), f"all but {LIMIT_PRIME}")

    def test_the_empty_list_and_zeros(self):
        for matrix in (PLANE, CORNERS, ZEROS, Matrix([[0]])):
            self.assertEqual(independent(matrix, []), Chars.every())
        for k in range(3):
            self.assertEqual(independent(ZEROS, [k]), Chars.none())

    def test_more_columns_than_rows(self):
        self.assertEqual(independent(Matrix([[1, 2]]), [0, 1]), Chars.none())
        self.assertEqual(independent(Matrix([[1, 2]]), [1]), Chars.but(2))

    def test_by_the_minors(self):
        for rows in any_matrices(1, 60):
            primes = primes_of_minors(rows)
            for columns in lists_of(len(rows[0])):
                expected = chars_where(lambda p: is_independent(rows, columns, p), primes)
                for order in list(permutations(columns))[:3]:
                    found = independent(Matrix(rows), list(order))
                    self.assertIs(type(found), Chars)
                    self.assertEqual(found, expected)

    def test_numbers_of_any_size(self):
        matrix = Matrix([[LONG, LONG + 1], [LONG, LONG + 1]])
        self.assertEqual(independent(matrix, [0, 1]), Chars.none())
        self.assertEqual(str(independent(Matrix([[10 ** 40, 1]]), [0])), "all but 2 5")


class TestBasesAndCircuits(unittest.TestCase):
    def test_bases(self):
        self.assertEqual(bases(PLANE, p=2), [[0, 1], [0, 2], [0, 3], [1, 2], [1, 3]])
        self.assertEqual(bases(PLANE, p=0), [[0, 1], [0, 2], [0, 3], [1, 2], [1, 3], [2, 3]])
        self.assertEqual(bases(PLANE, p=LIMIT_PRIME), bases(PLANE, p=0))
        self.assertEqual([bases(ZEROS, p=p) for p in (0, 2)], [[[]], [[]]])
        self.assertEqual([bases(Matrix([[6]]), p=p) for p in (0, 2, 5)], [[[0]], [[]], [[0]]])
        self.assertEqual(len(bases(CORNERS, p=0)), 29)
        self.assertEqual(len(bases(CORNERS, p=2)), 28)

    def test_circuits(self):
        self.assertEqual(circuits(PLANE, p=2), [[0, 1, 2], [0, 1, 3], [2, 3]])
        self.assertEqual(circuits(PLANE, p=0), [[0, 1, 2], [0, 1, 3], [0, 2, 3], [1, 2, 3]])
        self.assertEqual(circuits(ZEROS, p=3), [[0], [1], [2]])
        self.assertEqual(circuits(Matrix.unit(4), p=3), [])
        self.assertEqual([circuits(Matrix([[6]]), p=p) for p in (0, 3)], [[], [[0]]])
        self.assertEqual(circuits(Matrix([[0, 1, 1]]), p=0), [[0], [1, 2]])

    def test_by_the_minors(self):
        for rows in any_matrices(2, 40):
            for p in SMALL:
                matrix = Matrix(rows)
                self.assertEqual(bases(matrix, p=p), bases_of(rows, p))
                lists = [
                    columns for columns in lists_of(len(rows[0])) if not is_independent(rows, columns, p)
                    and all(is_independent(rows, columns[:k] + columns[k + 1:], p) for k in range(len(columns)))
                ]
                self.assertEqual(circuits(matrix, p=p), lists)

    def test_the_lists_are_new_ones(self):
        for function in (bases, circuits):
            for found in (function(PLANE, p=3), function(PLANE, p=3)):
                self.assertEqual({type(found)} | {type(columns) for columns in found}, {list})
                self.assertEqual(len(found[0]), min(len(columns) for columns in found))
                found[0].append(9)
                found.append([])
            self.assertNotIn(9, function(PLANE, p=3)[0])

    def test_seven_columns(self):
        self.assertEqual(len(bases(Matrix.unit(7), p=5)), 1)
        self.assertEqual(len(circuits(Matrix([[1, 2, 3, 4, 5, 6, 7]]), p=7)), 1 + 15)


class TestSpanned(unittest.TestCase):
    def test_values(self):
        self.assertEqual(spanned(PLANE, [2], p=2), [2, 3])
        self.assertEqual(spanned(PLANE, [2], p=3), [2])
        self.assertEqual(spanned(PLANE, [3, 0], p=3), [0, 1, 2, 3])
        self.assertEqual(spanned(PLANE, [], p=0), [])
        self.assertEqual(spanned(ZEROS, [], p=0), [0, 1, 2])
        self.assertEqual(spanned(ZEROS, [1], p=2), [0, 1, 2])
        self.assertEqual(spanned(Matrix([[3, 1, 6]]), [], p=3), [0, 2])
        self.assertEqual(spanned(Matrix([[3, 1, 6]]), [2], p=3), [0, 2])

    def test_by_the_minors(self):
        for rows in any_matrices(3, 40):
            for p in (0, 2, 3):
                for columns in lists_of(len(rows[0])):
                    size = rank_of(rows, columns, p)
                    expected = [k for k in range(len(rows[0]))
                                if k in columns or rank_of(rows, columns + [k], p) == size]
                    self.assertEqual(spanned(Matrix(rows), columns[::-1], p=p), expected)


class TestExchange(unittest.TestCase):
    def test_values(self):
        self.assertEqual(exchange(PLANE, [2, 0], [1, 3], 0, p=2), 1)
        self.assertEqual(exchange(PLANE, [2, 0], [3, 1], 0, p=2), 1)
        self.assertEqual(exchange(PLANE, [2, 0], [1, 3], 2, p=2), 1)
        self.assertEqual(exchange(PLANE, [1, 3], [0, 2], 3, p=0), 0)

    def test_out_itself(self):
        self.assertEqual(exchange(PLANE, [0, 1], [0, 1], 1, p=0), 1)
        self.assertEqual(exchange(PLANE, [0, 1], [1, 0], 0, p=0), 0)
        # Column 0 stands in the basis already, and so does not take another place in it.
        self.assertEqual(exchange(PLANE, [0, 3], [3, 0], 3, p=0), 3)
        self.assertEqual(exchange(PLANE, [0, 3], [2, 3], 3, p=0), 2)

    def test_the_order_of_the_errors(self):
        good, bad = [0, 1], [2, 3]
        self.assertEqual(raised(exchange, PLANE, bad, bad, 0, p=2), ("BadStep", {"at": 0}))
        self.assertEqual(raised(exchange, PLANE, good, bad, 3, p=2), ("BadStep", {"at": 1}))
        self.assertEqual(raised(exchange, PLANE, good, good, 3, p=2), ("BadStep", {"at": 2}))
        self.assertIsNone(raised(exchange, PLANE, bad, good, 3, p=3))
        for p in NO_CHARACTERISTICS:
            self.assertEqual(raised(exchange, PLANE, bad, bad, 0, p=p), ("BadCharacteristic", {"p": p}))

    def test_lists_of_another_length_are_no_bases(self):
        for columns in ([], [0], [0, 1, 2]):
            self.assertEqual(raised(exchange, PLANE, columns, [0, 1], 0, p=0), ("BadStep", {"at": 0}))
            self.assertEqual(raised(exchange, PLANE, [0, 1], columns, 0, p=0), ("BadStep", {"at": 1}))

    def test_rank_zero(self):
        self.assertEqual(raised(exchange, ZEROS, [], [], 0, p=0), ("BadStep", {"at": 2}))
        self.assertEqual(raised(exchange, ZEROS, [0], [], 0, p=0), ("BadStep", {"at": 0}))

    def test_by_the_bases(self):
        for rows in any_matrices(4, 25):
            for p in (0, 2, 3):
                found = bases_of(rows, p)
                for first in found:
                    for second in found:
                        for out in first:
                            rest = [k for k in first if k != out]
                            expected = min(k for k in second if k not in rest and sorted(rest + [k]) in found)
                            self.assertEqual(exchange(Matrix(rows), first[::-1], second[::-1], out, p=p), expected)

    def test_arguments_are_not_modified(self):
        first, second = [2, 0], [3, 1]
        exchange(PLANE, first, second, 0, p=2)
        self.assertEqual((first, second), ([2, 0], [3, 1]))


class TestHeaviest(unittest.TestCase):
    def test_values(self):
        self.assertEqual(heaviest(PLANE, [1, 1, 5, 4], p=2), [0, 2])
        self.assertEqual(heaviest(PLANE, [1, 1, 5, 4], p=3), [2, 3])
        self.assertEqual(heaviest(PLANE, (1, 2, 5, 4), p=2), [1, 2])
        self.assertEqual(heaviest(PLANE, [7, 7, 7, 7], p=0), [0, 1])
        self.assertEqual(heaviest(PLANE, [-5, -1, -1, -1], p=2), [1, 2])
        self.assertEqual(heaviest(PLANE, [-5, -1, -1, -1], p=0), [1, 2])
        self.assertEqual(heaviest(ZEROS, [1, 2, 3], p=0), [])
        self.assertEqual(heaviest(Matrix([[0], [4]]), [-3], p=0), [0])
        self.assertEqual(heaviest(Matrix([[0], [4]]), [-3], p=2), [])

    def test_weights_of_many_digits(self):
        huge = 10 ** 5000
        self.assertEqual(heaviest(PLANE, [huge, huge + 1, huge + 3, huge + 2], p=2), [1, 2])
        self.assertEqual(heaviest(PLANE, [-huge, 1 - huge, -LONG, -LONG - 1], p=3), [2, 3])

    def test_the_first_one_of_the_greatest(self):
        chance = random.Random(5)
        for rows in any_matrices(6, 60):
            weights = [chance.randint(-2, 2) for _ in rows[0]]
            for p in (0, 2, 3):
                found = bases_of(rows, p)
                most = max(sum(weights[k] for k in columns) for columns in found)
                expected = [columns for columns in found if sum(weights[k] for k in columns) == most][0]
                self.assertEqual(heaviest(Matrix(rows), weights, p=p), expected)

    def test_another_number_of_weights(self):
        for weights in ([], [1, 1, 1], [1] * 5):
            expected = ("UnlikeShapes", {"first": (2, 4), "second": len(weights)})
            self.assertEqual(raised(heaviest, PLANE, weights, p=0), expected)
            for p in NO_CHARACTERISTICS:
                self.assertEqual(raised(heaviest, PLANE, weights, p=p), ("BadCharacteristic", {"p": p}))

    def test_weights_are_not_modified(self):
        weights = [1, 4, 2, 3]
        heaviest(PLANE, weights, p=0).append(9)
        self.assertEqual(weights, [1, 4, 2, 3])
        self.assertEqual(heaviest(PLANE, weights, p=0), [1, 3])


class TestSameColumns(unittest.TestCase):
    def test_values(self):
        other = Matrix([[1, 0, 1, 1], [0, 1, 1, 1]])
        self.assertEqual(str(same_columns(PLANE, other)), "primes 2")
        self.assertEqual(str(same_columns(other, PLANE)), "primes 2")
        self.assertEqual(str(same_columns(PLANE, PLANE)), "all but")
        self.assertEqual(str(same_columns(PLANE, Matrix([[0, 0, 0, 0]]))), "primes")
        self.assertEqual(str(same_columns(ZEROS, Matrix([[0, 0, 0]]))), "all but")
        self.assertEqual(str(same_columns(Matrix([[6]]), Matrix([[4], [10]]))), "all but 3")
        self.assertEqual(str(same_columns(Matrix([[6]]), Matrix([[0]]))), "primes 2 3")
        self.assertEqual(str(same_columns(Matrix([[1, 2]]), Matrix([[1, 2], [2, 4]]))), "all but")

    def test_unlike_widths(self):
        expected = ("UnlikeShapes", {"first": (2, 4), "second": (2, 3)})
        self.assertEqual(raised(same_columns, PLANE, ZEROS), expected)
        expected = ("UnlikeShapes", {"first": (2, 3), "second": (2, 4)})
        self.assertEqual(raised(same_columns, ZEROS, PLANE), expected)

    def test_by_the_minors(self):
        matrices = list(any_matrices(7, 120))
        pairs = [(a, b) for a, b in zip(matrices, matrices[1:]) if len(a[0]) == len(b[0])]
        # Rows that were mixed have the same independent columns in most characteristics.
        pairs += [(a, [[2 * m for m in a[0]]] + a[1:]) for a in matrices[:30]]
        for first, second in pairs:
            def same(p):
                return all(is_independent(first, columns, p) == is_independent(second, columns, p)
                           for columns in lists_of(len(first[0])))
            expected = chars_where(same, sorted(set(primes_of_minors(first) + primes_of_minors(second))))
            self.assertEqual(same_columns(Matrix(first), Matrix(second)), expected)
            self.assertEqual(same_columns(Matrix(second), Matrix(first)), expected)


class TestChanges(unittest.TestCase):
    def test_values(self):
        self.assertEqual(changes(PLANE), [2])
        self.assertEqual(changes(CORNERS), [2])
        self.assertEqual(changes(Matrix([[6, 5]])), [2, 3, 5])
        self.assertEqual(changes(Matrix([[LIMIT_PRIME]])), [LIMIT_PRIME])
        for matrix in (ZEROS, Matrix.unit(7), Matrix([[1, 1, 0], [0, 1, 1]]), Matrix([[2, 3], [3, 4]]).part([0, 1], [0])):
            self.assertEqual(changes(matrix), [])
            self.assertIs(never_changes(matrix), True)
        self.assertIs(never_changes(PLANE), False)

    def test_minors_alone_do_not_change_the_columns(self):
        # A row that is a multiple of another one makes minors that are 0 in some characteristics only.
        matrix = Matrix([[1, 1], [2, 2]])
        self.assertEqual((changes(matrix), never_changes(matrix)), ([], True))

    def test_by_the_minors(self):
        for rows in any_matrices(8, 80):
            lists = lists_of(len(rows[0]))
            expected = [p for p in primes_of_minors(rows)
                        if any(is_independent(rows, c, p) != is_independent(rows, c, 0) for c in lists)]
            self.assertEqual(changes(Matrix(rows)), expected)
            self.assertIs(never_changes(Matrix(rows)), not expected)

    def test_the_list_is_a_new_one(self):
        changes(PLANE).append(3)
        self.assertEqual(changes(PLANE), [2])


class TestBadSquare(unittest.TestCase):
    def test_values(self):
        self.assertEqual(bad_square(PLANE), ([0, 1], [2, 3]))
        self.assertEqual(bad_square(CORNERS), ([0, 1, 2], [3, 4, 5]))
        self.assertEqual(bad_square(Matrix([[1, 1], [0, -2]])), ([1], [1]))
        self.assertEqual(bad_square(Matrix([[1, 1, 0], [0, 1, 1], [1, 0, 1]])), ([0, 1, 2], [0, 1, 2]))
        self.assertEqual(bad_square(Matrix([[0], [-3]])), ([1], [0]))
        for matrix in (ZEROS, Matrix.unit(7), Matrix([[-1]]), Matrix([[1, 1, 0], [0, 1, 1]])):
            self.assertIsNone(bad_square(matrix))

    def test_the_first_one(self):
        for rows in any_matrices(9, 120, 1):
            expected = None
            for size in range(min(len(rows), len(rows[0])), 0, -1):
                for chosen in reversed(list(combinations(range(len(rows)), size))):
                    for columns in reversed(list(combinations(range(len(rows[0])), size))):
                        if determinant([[rows[i][k] for k in columns] for i in chosen]) not in (0, 1, -1):
                            expected = (list(chosen), list(columns))
            found = bad_square(Matrix(rows))
            self.assertEqual(found, expected)
            if found is None:
                self.assertIs(never_changes(Matrix(rows)), True)

    def test_a_large_matrix_without_one(self):
        # Each row has its ones side by side.
        rows = [[1 if i <= k < i + 3 else 0 for k in range(7)] for i in range(8)]
        self.assertIsNone(bad_square(Matrix(rows)))


class TestDual(unittest.TestCase):
    def check(self, rows, p):
        width = len(rows[0])
        found = dual(Matrix(rows), p=p)
        self.assertIs(type(found), Matrix)
        self.assertEqual(found.width, width)
        expected = sorted([k for k in range(width) if k not in columns] for columns in bases_of(rows, p))
        self.assertEqual(bases_of(found.rows, p), expected)

    def test_values(self):
        for p in SMALL:
            self.check([[0, 0, 0], [0, 0, 0]], p)
            self.check([[1, 0], [0, 1]], p)
            self.check([[1, 0], [0, 6], [1, 1]], p)
            self.check([[1, 2, 3, 4]], p)
            self.check([[6]], p)
            self.check([[0]], p)
            self.check(PLANE.rows, p)

    def test_by_the_bases(self):
        for rows in any_matrices(10, 60):
            for p in SMALL:
                self.check(rows, p)


class TestArguments(unittest.TestCase):
    def calls(self, p):
        return [
            (bases, [PLANE]), (circuits, [PLANE]), (spanned, [PLANE, [0]]), (heaviest, [PLANE, [1, 2, 3, 4]]),
            (exchange, [PLANE, [0, 1], [2, 0], 1]), (dual, [PLANE]), (circuits, [ZEROS]), (spanned, [ZEROS, []]),
            (bases, [ZEROS]), (heaviest, [ZEROS, [1, 1, 1]]), (dual, [Matrix.unit(2)]),
        ]

    def test_no_characteristics(self):
        for p in NO_CHARACTERISTICS:
            for function, arguments in self.calls(p):
                self.assertEqual(raised(function, *arguments, p=p), ("BadCharacteristic", {"p": p}), function.__name__)

    def test_p_is_passed_by_keyword(self):
        for function, arguments in self.calls(0):
            self.assertRaises(TypeError, function, *arguments, 3)
            self.assertIsNone(raised(function, *arguments, p=3))


class TestExamples(unittest.TestCase):
    def test_first(self):
        m = Matrix([[1, 0, 1, 1], [0, 1, 1, -1]])
        self.assertEqual(
            [str(independent(m, [2, 3])), str(independent(m, [0, 1, 2])), bases(m, p=2), circuits(m, p=2), changes(m),
             bad_square(m)],
            ["all but 2", "primes", [[0, 1], [0, 2], [0, 3], [1, 2], [1, 3]], [[0, 1, 2], [0, 1, 3], [2, 3]], [2],
             ([0, 1], [2, 3])])

    def test_second(self):
        m = Matrix([[1, 0, 1, 1], [0, 1, 1, -1]])
        self.assertEqual(
            [spanned(m, [2], p=2), heaviest(m, [1, 1, 5, 4], p=2), heaviest(m, [1, 1, 5, 4], p=3),
             exchange(m, [2, 0], [1, 3], 0, p=2), str(same_columns(m, Matrix([[1, 0, 1, 1], [0, 1, 1, 1]])))],
            [[2, 3], [0, 2], [2, 3], 1, "primes 2"])


if __name__ == "__main__":
    unittest.main()
