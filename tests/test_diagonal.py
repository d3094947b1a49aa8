"""Tests of points 5.1 to 5.5, and of the example of everyfield/diagonal.py."""

import random
import unittest
from math import gcd

from plain import determinant, minors, product, raised

from everyfield.diagonal import diagonal, divisors, shown, undone
from everyfield.matrices import Matrix

LONG = 12345678901234567890


def any_matrix(chance, height, width, most=9):
    return Matrix([[chance.randint(-most, most) for _ in range(width)] for _ in range(height)])


def any_unit(chance, size, steps=20):
    """A matrix with the determinant 1 or -1, made by exchanging and adding rows."""
    rows = [list(row) for row in Matrix.unit(size).rows]
    for _ in range(steps if size > 1 else 0):
        i, k = chance.sample(range(size), 2)
        by = chance.choice([-2, -1, 1, 2])
        rows[i] = [m + by * n for m, n in zip(rows[i], rows[k])]
        if chance.randint(0, 3) == 0:
            rows[i], rows[k] = rows[k], rows[i]
    if chance.randint(0, 1):
        rows[0] = [-n for n in rows[0]]
    return Matrix(rows)


def plain_numbers(matrix):
    """The numbers of the diagonal form other than 0, from the minors as point 5.4 says."""
    found, before = [], 1
    for size in range(1, min(matrix.height, matrix.width) + 1):
        shared = gcd(*minors(matrix.rows, size))
        if shared == 0:
            break
        found.append(shared // before)
        before = shared
    return found


class TestDiagonal(unittest.TestCase):
    def check(self, matrix, numbers=None):
        """The three matrices are as point 5.1 says, worked out without shown."""
        found = diagonal(matrix)
        self.assertIs(type(found), tuple)
        first, middle, last = found
        self.assertEqual({type(first), type(middle), type(last)}, {Matrix})
        self.assertEqual((first.height, first.width), (matrix.height, matrix.height))
        self.assertEqual((last.height, last.width), (matrix.width, matrix.width))
        self.assertIn(first.determinant(), (1, -1))
        self.assertIn(last.determinant(), (1, -1))
        self.assertEqual(Matrix(product(product(first.rows, matrix.rows), last.rows)), middle)
        on = [middle.rows[k][k] for k in range(min(matrix.height, matrix.width))]
        for i, row in enumerate(middle.rows):
            self.assertEqual([n for k, n in enumerate(row) if k != i], [0] * (len(row) - (i < len(row))))
        for d, n in zip(on, on[1:]):
            self.assertTrue(n == 0 or (d != 0 and n % d == 0), on)
        self.assertTrue(all(n >= 0 for n in on), on)
        above = [n for n in on if n != 0]
        self.assertEqual(divisors(matrix), above)
        self.assertIs(shown(matrix, first, middle, last), True)
        if numbers is not None:
            self.assertEqual(above, numbers)

    def test_every_shape(self):
        chance = random.Random(1)
        for height in range(1, 9):
            for width in range(1, 9):
                for most in (1, 9, LONG):
                    self.check(any_matrix(chance, height, width, most))

    def test_numbers_by_the_minors(self):
        chance = random.Random(2)
        for height in range(1, 5):
            for width in range(1, 6):
                for most in (1, 3, 30):
                    for _ in range(6):
                        matrix = any_matrix(chance, height, width, most)
                        self.check(matrix, plain_numbers(matrix))

    def test_all_small_ones(self):
        for n in range(7 ** 4):
            a, b, c, d = n % 7 - 3, n // 7 % 7 - 3, n // 49 % 7 - 3, n // 343 - 3
            matrix = Matrix([[a, b], [c, d]])
            self.check(matrix, plain_numbers(matrix))

    def test_only_zeros(self):
        for height, width in ((1, 1), (1, 8), (8, 1), (3, 2), (8, 8)):
            self.check(Matrix([[0] * width] * height), [])

    def test_dependent_rows(self):
        chance = random.Random(3)
        for height, between, width in ((3, 1, 3), (4, 2, 5), (8, 3, 8), (8, 5, 6), (5, 1, 8)):
            for most in (2, 9, LONG):
                matrix = any_matrix(chance, height, between, most) * any_matrix(chance, between, width, most)
                self.check(matrix)
                self.assertEqual(len(divisors(matrix)), between)
        self.check(Matrix([[1, 2], [1, 2]]), [1])
        self.check(Matrix([[0, 0], [2, 4], [3, 6]]), [1])
        self.check(Matrix([[0, 2], [0, 4]]), [2])

    def test_diagonal_ones_that_are_not_of_the_form(self):
        self.check(Matrix.diagonal([2, 3], 2, 2), [1, 6])
        self.check(Matrix.diagonal([4, 6], 2, 3), [2, 12])
        self.check(Matrix.diagonal([4, 2], 3, 2), [2, 4])
        self.check(Matrix.diagonal([0, 3], 2, 2), [3])
        self.check(Matrix.diagonal([0, 0, -3], 3, 3), [3])
        self.check(Matrix.diagonal([-1, -1], 2, 2), [1, 1])
        self.check(Matrix.diagonal([-6, 0, 4, -10], 4, 5), [2, 2, 60])
        self.check(Matrix.diagonal([6, 10, 15], 3, 3), [1, 30, 30])
        self.check(Matrix.diagonal([2 ** 60, 3 ** 40, 6 ** 20, 0, 5], 5, 5), [1, 1, 6 ** 20, 2 ** 60 * 3 ** 40 * 5])

    def test_known_numbers(self):
        chance = random.Random(4)
        for numbers in ([2, 4], [1, 6, 12], [3, 3, 3], [2, 2, 12, 60, 2520], [1, 1, 1, 720720], [LONG, LONG * 6]):
            for height, width in ((5, 5), (6, 5), (5, 8)):
                middle = Matrix.diagonal(numbers, height, width)
                self.check(any_unit(chance, height) * middle * any_unit(chance, width), numbers)

    def test_long_numbers(self):
        self.check(Matrix([[LONG]]), [LONG])
        self.check(Matrix([[-LONG]]), [LONG])
        self.check(Matrix([[LONG, LONG + 1]]), [1])
        self.check(Matrix([[6 * LONG], [-4 * LONG], [10 * LONG]]), [2 * LONG])

    def test_great_texts(self):
        chance = random.Random(5)
        self.check(Matrix.read(str(any_matrix(chance, 40, 40, 9))))
        self.check(Matrix.read(str(any_matrix(chance, 12, 40, 10 ** 29))))

    def test_the_matrix_does_not_change(self):
        matrix = Matrix([[2, 4], [6, 8]])
        diagonal(matrix), divisors(matrix), raised(undone, matrix)
        self.assertEqual(matrix.rows, ((2, 4), (6, 8)))


class TestShown(unittest.TestCase):
    def setUp(self):
        self.matrix = Matrix([[2, 4], [6, 8]])
        self.first, self.middle, self.last = diagonal(self.matrix)

    def check_not(self, matrix, first, middle, last):
        self.assertIs(shown(matrix, first, middle, last), False)

    def test_others_that_are_right(self):
        unit = Matrix.unit(2)
        self.assertIs(shown(self.middle, unit, self.middle, unit), True)
        self.assertIs(shown(self.middle, -unit, self.middle, -unit), True)
        swap = Matrix([[0, 1], [1, 0]])
        self.assertIs(shown(Matrix([[4, 0], [0, 2]]), swap, Matrix([[2, 0], [0, 4]]), swap), True)
        self.assertIs(shown(Matrix([[0, 0]]), Matrix([[1]]), Matrix([[0, 0]]), unit), True)
        self.assertIs(shown(Matrix([[3, 0], [0, 0], [0, 0]]), Matrix.unit(3), Matrix.diagonal([3], 3, 2), unit), True)

    def test_wrong_shapes(self):
        matrix, first, middle, last = self.matrix, self.first, self.middle, self.last
        for wrong in (Matrix([[1]]), Matrix.unit(3), Matrix([[1, 0]]), Matrix([[1], [0]]), Matrix([[1, 0, 0], [0, 1, 0]])):
            self.check_not(matrix, wrong, middle, last)
            self.check_not(matrix, first, middle, wrong)
            self.check_not(matrix, first, wrong, last)
            self.check_not(wrong, first, middle, last)
        zeros = Matrix([[0, 0, 0], [0, 0, 0]])
        self.assertIs(shown(zeros, Matrix.unit(2), zeros, Matrix.unit(3)), True)
        self.check_not(zeros, Matrix.unit(3), zeros, Matrix.unit(2))
        self.check_not(zeros, Matrix.unit(3), zeros, Matrix.unit(3))
        self.check_not(zeros, Matrix.unit(2), zeros.transposed(), Matrix.unit(3))
        self.check_not(zeros, Matrix([[1, 0], [0, 1], [0, 0]]), Matrix([[0, 0, 0]] * 3), Matrix.unit(3))
        self.check_not(zeros, Matrix.unit(2), Matrix([[0, 0]] * 2), Matrix([[1, 0], [0, 1], [0, 0]]))

    def test_wrong_determinants(self):
        matrix, first, last = self.matrix, self.first, self.last
        unit, double = Matrix.unit(2), Matrix.diagonal([1, 2], 2, 2)
        self.check_not(matrix, double * first, double * self.middle, last)
        self.check_not(matrix, first, self.middle * double, last * double)
        self.check_not(matrix, first.scaled(0), self.middle.scaled(0), last)
        self.check_not(matrix, first, self.middle.scaled(0), last.scaled(0))
        self.check_not(unit, double, double, unit)
        self.check_not(unit, unit, double, double)
        zeros = Matrix([[0, 0], [0, 0]])
        self.check_not(zeros, double, zeros, unit)
        self.check_not(zeros, unit, zeros, double)
        self.assertIs(shown(zeros, unit, zeros, unit), True)

    def test_wrong_products(self):
        matrix, first, middle, last = self.matrix, self.first, self.middle, self.last
        self.check_not(matrix, -first, middle, last)
        self.check_not(matrix, first, Matrix([[2, 0], [0, 8]]), last)
        self.check_not(matrix, first, Matrix([[0, 0], [0, 0]]), last)
        self.check_not(matrix.scaled(2), first, middle, last)
        self.check_not(matrix, Matrix.unit(2), middle, Matrix.unit(2))

    def test_a_middle_that_is_not_of_the_form(self):
        for rows in (
            [[2, 0], [0, 3]], [[4, 0], [0, 2]], [[0, 0], [0, 1]], [[1, 0], [0, -2]], [[-1, 0], [0, 2]], [[-1, 0], [0, 0]],
            [[1, 1], [0, 2]], [[1, 0], [1, 2]], [[0, 1], [0, 0]], [[0, 0], [1, 0]], [[0, 1], [1, 0]],
            [[1, 0, 0], [0, 2, 2]], [[0, 0, 1]], [[0], [0], [1]], [[-1]], [[-5, 0, 0]],
            [[2, 0, 0], [0, 4, 0], [0, 0, 6]], [[2, 0, 0], [0, 0, 0], [0, 0, 2]],
        ):
            matrix = Matrix(rows)
            self.check_not(matrix, Matrix.unit(matrix.height), matrix, Matrix.unit(matrix.width))
        for numbers in ([1, 1], [1, 2], [2, 2], [2, 6], [2, 0], [0, 0], [LONG, LONG * 7]):
            matrix = Matrix.diagonal(numbers, 2, 2)
            self.assertIs(shown(matrix, Matrix.unit(2), matrix, Matrix.unit(2)), True)


class TestDivisors(unittest.TestCase):
    def test_values(self):
        self.assertEqual(divisors(Matrix([[2, 4], [6, 8]])), [2, 4])
        self.assertEqual(divisors(Matrix([[0, 0], [0, 0]])), [])
        self.assertEqual(divisors(Matrix([[0]])), [])
        self.assertEqual(divisors(Matrix([[-7]])), [7])
        self.assertEqual(divisors(Matrix([[1, 1, 0], [0, 1, 1], [1, 0, 1]])), [1, 1, 2])
        self.assertEqual(divisors(Matrix([[1, 2, 3], [4, 5, 6], [7, 8, 9]])), [1, 3])

    def test_products_are_those_of_the_minors(self):
        chance = random.Random(6)
        for height, width in ((3, 3), (4, 4), (3, 6), (5, 4)):
            for most in (2, 50, LONG):
                matrix = any_matrix(chance, height, width, most).scaled(chance.choice([1, 6]))
                found, together = divisors(matrix), 1
                for size in range(1, min(height, width) + 1):
                    together *= found[size - 1] if size <= len(found) else 0
                    self.assertEqual(together, gcd(*matrix.minors(size)))

    def test_the_list_is_a_new_one(self):
        matrix = Matrix([[2, 4], [6, 8]])
        divisors(matrix).append(5)
        self.assertEqual(divisors(matrix), [2, 4])


class TestUndone(unittest.TestCase):
    def test_values(self):
        self.assertEqual(undone(Matrix([[1]])).rows, ((1,),))
        self.assertEqual(undone(Matrix([[-1]])).rows, ((-1,),))
        self.assertEqual(undone(Matrix([[2, 1], [1, 1]])).rows, ((1, -1), (-1, 2)))
        self.assertEqual(undone(Matrix([[0, 1], [1, 0]])).rows, ((0, 1), (1, 0)))

    def test_both_products(self):
        chance = random.Random(7)
        seen = set()
        for size in range(1, 9):
            for _ in range(10):
                matrix = any_unit(chance, size)
                seen.add(matrix.determinant())
                found = undone(matrix)
                self.assertIs(type(found), Matrix)
                self.assertEqual((matrix * found, found * matrix), (Matrix.unit(size), Matrix.unit(size)))
        self.assertEqual(seen, {1, -1})

    def test_other_determinants(self):
        cases = [
            [[0]], [[2]], [[-2]], [[LONG]], [[1, 2], [2, 4]], [[2, 0], [0, 1]], [[1, 1], [1, -1]], [[0, 0], [0, 0]],
            [[1, 2], [3, 4]], [[1, 1, 0], [0, 1, 1], [1, 0, 1]], [[1, 2, 3], [4, 5, 6], [7, 8, 9]],
        ]
        for rows in cases:
            self.assertNotIn(determinant(rows), (1, -1))
            self.assertEqual(raised(undone, Matrix(rows)), ("NoInverse", {}))

    def test_not_square(self):
        for height, width in ((1, 2), (2, 1), (3, 8), (8, 3)):
            for matrix in (Matrix([[0] * width] * height), Matrix.diagonal([1], height, width)):
                self.assertEqual(raised(undone, matrix), ("NotSquare", {"height": height, "width": width}))


class TestExample(unittest.TestCase):
    def test_of_the_interface(self):
        m = Matrix([[2, 4], [6, 8]])
        first, middle, last = diagonal(m)
        found = [str(middle), shown(m, first, middle, last), divisors(m), str(undone(Matrix([[2, 1], [1, 1]])))]
        self.assertEqual(found, ["2 0; 0 4", True, [2, 4], "1 -1; -1 2"])


if __name__ == "__main__":
    unittest.main()
