"""Tests of points 4.1 to 4.7, of 0.5 and 0.6 for matrices, and of the example of everyfield/matrices.py."""

import random
import unittest
from itertools import combinations

from plain import determinant, determinant_by_orders, minors, product, raised, times

from everyfield.errors import FieldError
from everyfield.matrices import Matrix

LONG = 12345678901234567890
M = Matrix([[1, 2, 3], [4, 5, 6]])


def any_rows(chance, height, width, most=9):
    return [[chance.randint(-most, most) for _ in range(width)] for _ in range(height)]


class TestMaking(unittest.TestCase):
    def test_attributes(self):
        for rows in (
            [[1, 2, 3], [4, 5, 6]], ((1, 2, 3), (4, 5, 6)), [(1, 2, 3), [4, 5, 6]], ([1, 2, 3], (4, 5, 6)),
        ):
            matrix = Matrix(rows)
            self.assertEqual(matrix.rows, ((1, 2, 3), (4, 5, 6)))
            self.assertEqual([type(matrix.rows)] + [type(row) for row in matrix.rows], [tuple] * 3)
            self.assertEqual((matrix.height, matrix.width), (2, 3))

    def test_shapes(self):
        for height in range(1, 9):
            for width in range(1, 9):
                rows = any_rows(random.Random(height * width), height, width, LONG)
                matrix = Matrix(rows)
                self.assertEqual((matrix.height, matrix.width), (height, width))
                self.assertEqual(matrix.rows, tuple(tuple(row) for row in rows))

    def test_lists_that_change_later(self):
        row = [1, 2]
        rows = [row, (3, 4)]
        matrix = Matrix(rows)
        row[0] = 7
        row.append(9)
        rows.append([5, 6])
        rows[1] = (0, 0)
        self.assertEqual(matrix.rows, ((1, 2), (3, 4)))
        self.assertEqual((matrix.height, matrix.width), (2, 2))
        self.assertEqual((row, rows), ([7, 2, 9], [[7, 2, 9], (0, 0), [5, 6]]))

    def test_bad_rows(self):
        cases = [
            ([[1, 2], [3]], 1), ([[1, 2], [3, 4, 5]], 1), ([[1], [2], [3, 4], [5], [6, 7]], 2), ([(1, 2), [3, 4], ()], 2),
            (([1],) * 7 + ([1, 2],), 7), ([[1, 2, 3], [1, 2], [1]], 1),
        ]
        for rows, at in cases:
            self.assertEqual(raised(Matrix, rows), ("BadRow", {"at": at}))

    def test_unit(self):
        self.assertEqual(Matrix.unit(1).rows, ((1,),))
        self.assertEqual(Matrix.unit(3).rows, ((1, 0, 0), (0, 1, 0), (0, 0, 1)))
        self.assertEqual(Matrix.unit(8).determinant(), 1)
        self.assertIs(type(Matrix.unit(2)), Matrix)

    def test_diagonal(self):
        self.assertEqual(Matrix.diagonal([2, -3], 2, 2).rows, ((2, 0), (0, -3)))
        self.assertEqual(Matrix.diagonal((2, LONG), 3, 2).rows, ((2, 0), (0, LONG), (0, 0)))
        self.assertEqual(Matrix.diagonal([2, 0], 2, 3).rows, ((2, 0, 0), (0, 0, 0)))
        self.assertEqual(Matrix.diagonal([5], 3, 3).rows, ((5, 0, 0), (0, 0, 0), (0, 0, 0)))
        self.assertEqual(Matrix.diagonal([], 1, 2).rows, ((0, 0),))
        self.assertEqual(Matrix.diagonal([4], 1, 4).rows, ((4, 0, 0, 0),))
        numbers = [1, 2]
        matrix = Matrix.diagonal(numbers, 2, 2)
        numbers[0] = 9
        self.assertEqual((matrix.rows, numbers), (((1, 0), (0, 2)), [9, 2]))


class TestOperators(unittest.TestCase):
    def test_place_by_place(self):
        first, second = Matrix([[1, 2, 3], [4, 5, LONG]]), Matrix([[10, -2, 0], [-4, 1, -1]])
        self.assertEqual((first + second).rows, ((11, 0, 3), (0, 6, LONG - 1)))
        self.assertEqual((first - second).rows, ((-9, 4, 3), (8, 4, LONG + 1)))
        self.assertEqual((-first).rows, ((-1, -2, -3), (-4, -5, -LONG)))
        self.assertEqual(first.scaled(-3).rows, ((-3, -6, -9), (-12, -15, -3 * LONG)))
        self.assertEqual(first.scaled(0).rows, ((0, 0, 0), (0, 0, 0)))
        self.assertEqual({type(found) for found in (first + second, first - second, -first, first.scaled(2))}, {Matrix})

    def test_product(self):
        chance = random.Random(4)
        for height in (1, 2, 3, 8):
            for between in (1, 2, 5):
                for width in (1, 3, 8):
                    first, second = any_rows(chance, height, between, LONG), any_rows(chance, between, width)
                    found = Matrix(first) * Matrix(second)
                    self.assertIs(type(found), Matrix)
                    self.assertEqual(found, Matrix(product(first, second)))
        self.assertEqual((Matrix([[1, 2]]) * Matrix([[3], [4]])).rows, ((11,),))
        self.assertEqual((Matrix([[3], [4]]) * Matrix([[1, 2]])).rows, ((3, 6), (4, 8)))

    def test_unlike_shapes_of_sums(self):
        for second, shape in ((Matrix([[1, 2]]), (1, 2)), (Matrix([[1, 2], [3, 4]]), (2, 2)), (M.transposed(), (3, 2))):
            for act in (lambda a, b: a + b, lambda a, b: a - b):
                self.assertEqual(raised(act, M, second), ("UnlikeShapes", {"first": (2, 3), "second": shape}))
                self.assertEqual(raised(act, second, M), ("UnlikeShapes", {"first": shape, "second": (2, 3)}))

    def test_unlike_shapes_of_products(self):
        for second, shape in ((M, (2, 3)), (Matrix([[1, 2], [3, 4]]), (2, 2)), (Matrix([[5]]), (1, 1))):
            found = raised(lambda a, b: a * b, M, second)
            self.assertEqual(found, ("UnlikeShapes", {"first": (2, 3), "second": shape}))
        self.assertEqual((Matrix([[1, 1], [0, 1]]) * M).rows, ((5, 7, 9), (4, 5, 6)))

    def test_equality(self):
        matrices = [M, -M, M.transposed(), Matrix([[1, 2, 3]]), Matrix([[1], [2], [3]]), Matrix([[0]]), Matrix([[0, 0]])]
        for at, first in enumerate(matrices):
            for other, second in enumerate(matrices):
                self.assertIs(first == second, at == other)
                self.assertIs(first != second, at != other)
        self.assertIs(M == Matrix(((1, 2, 3), (4, 5, 6))), True)

    def test_no_value_of_another_kind_is_equal(self):
        class Likeness:
            rows, height, width = ((5,),), 1, 1

        for other in [((5,),), [[5]], 5, "5", None, True, Likeness(), object()]:
            self.assertIs(Matrix([[5]]) == other, False)
            self.assertIs(other == Matrix([[5]]), False)
            self.assertIs(Matrix([[5]]) != other, True)

    def test_nothing_changes(self):
        first, second = Matrix([[1, 2], [3, 4]]), Matrix([[5, 6], [7, 8]])
        first + second, first - second, first * second, -first, first == second, str(first), first.scaled(3)
        first.transposed(), first.part([0], [1]), first.beside(second), first.determinant(), first.minors(1)
        vector, rows, columns = [1, 2], [1, 0], [0]
        first.times(vector), first.part(rows, columns)
        self.assertEqual((first.rows, second.rows), (((1, 2), (3, 4)), ((5, 6), (7, 8))))
        self.assertEqual((vector, rows, columns), ([1, 2], [1, 0], [0]))


class TestParts(unittest.TestCase):
    def test_transposed(self):
        self.assertEqual(M.transposed().rows, ((1, 4), (2, 5), (3, 6)))
        self.assertEqual((M.transposed().height, M.transposed().width), (3, 2))
        self.assertEqual(M.transposed().transposed(), M)
        self.assertEqual(Matrix([[1, 2, 3]]).transposed().rows, ((1,), (2,), (3,)))

    def test_part(self):
        self.assertEqual(M.part([0], [0]).rows, ((1,),))
        self.assertEqual(M.part([1, 0], [2, 0]).rows, ((6, 4), (3, 1)))
        self.assertEqual(M.part([0, 1], [0, 1, 2]), M)
        self.assertEqual(M.part([1], [2, 1, 0]).rows, ((6, 5, 4),))

    def test_part_with_indices_that_come_repeatedly(self):
        self.assertEqual(M.part([0, 0, 1, 0], [1, 1]).rows, ((2, 2), (2, 2), (5, 5), (2, 2)))
        self.assertEqual(M.part([1], [0] * 8).rows, ((4,) * 8,))

    def test_beside(self):
        self.assertEqual(M.beside(Matrix([[7], [8]])).rows, ((1, 2, 3, 7), (4, 5, 6, 8)))
        self.assertEqual(M.beside(M).rows, ((1, 2, 3, 1, 2, 3), (4, 5, 6, 4, 5, 6)))
        for other, shape in ((Matrix([[7]]), (1, 1)), (M.transposed(), (3, 2)), (Matrix([[1, 2, 3]]), (1, 3))):
            self.assertEqual(raised(M.beside, other), ("UnlikeShapes", {"first": (2, 3), "second": shape}))
            self.assertEqual(raised(other.beside, M), ("UnlikeShapes", {"first": shape, "second": (2, 3)}))


class TestDeterminants(unittest.TestCase):
    def test_plain_determinants_agree(self):
        chance = random.Random(2)
        for size in range(1, 6):
            rows = any_rows(chance, size, size)
            self.assertEqual(determinant(rows), determinant_by_orders(rows))

    def test_all_sizes(self):
        chance = random.Random(5)
        for size in range(1, 8):
            for most in (1, 2, 9, LONG):
                for _ in range(8 if size < 7 else 2):
                    rows = any_rows(chance, size, size, most)
                    self.assertEqual(Matrix(rows).determinant(), determinant(rows))

    def test_many_zeros(self):
        chance = random.Random(6)
        for size in range(2, 7):
            for _ in range(60):
                rows = [[chance.choice([0, 0, 0, 1, -1, 2]) for _ in range(size)] for _ in range(size)]
                self.assertEqual(Matrix(rows).determinant(), determinant(rows))

    def test_values(self):
        self.assertEqual(Matrix([[-7]]).determinant(), -7)
        self.assertEqual(Matrix([[0]]).determinant(), 0)
        self.assertEqual(Matrix([[0, 1], [1, 0]]).determinant(), -1)
        self.assertEqual(Matrix([[0, 0, 1], [1, 0, 0], [0, 1, 0]]).determinant(), 1)
        self.assertEqual(Matrix([[1, 2], [2, 4]]).determinant(), 0)
        self.assertEqual(Matrix.diagonal([2, 3, 5, 7, 11, 13, 17, -19], 8, 8).determinant(), -9699690)
        backwards = Matrix([[1 if i + k == 7 else 0 for k in range(8)] for i in range(8)])
        self.assertEqual(backwards.determinant(), 1)

    def test_products(self):
        chance = random.Random(7)
        for _ in range(10):
            first, second = Matrix(any_rows(chance, 8, 8, LONG)), Matrix(any_rows(chance, 8, 8, LONG))
            self.assertEqual((first * second).determinant(), first.determinant() * second.determinant())
            self.assertEqual(first.transposed().determinant(), first.determinant())

    def test_not_square(self):
        for height, width in ((1, 2), (2, 1), (2, 3), (8, 7), (1, 8)):
            matrix = Matrix([[0] * width] * height)
            self.assertEqual(raised(matrix.determinant), ("NotSquare", {"height": height, "width": width}))

    def test_minors(self):
        chance = random.Random(1)
        for height, width in ((1, 1), (1, 3), (3, 1), (2, 3), (3, 3), (4, 3), (4, 5)):
            rows = any_rows(chance, height, width)
            for size in range(1, min(height, width) + 1):
                self.assertEqual(Matrix(rows).minors(size), minors(rows, size))

    def test_the_order_of_minors(self):
        self.assertEqual(M.minors(1), [1, 2, 3, 4, 5, 6])
        self.assertEqual(M.minors(2), [-3, -6, -3])
        self.assertEqual(M.transposed().minors(2), [-3, -6, -3])
        matrix = Matrix([[10 ** (3 * i + k) for k in range(3)] for i in range(3)])
        self.assertEqual(matrix.minors(3), [0])
        powers = Matrix([[(k + 2) ** i for k in range(4)] for i in range(4)])
        chosen = [powers.part(list(rows), list(columns)).determinant()
                  for rows in combinations(range(4), 2) for columns in combinations(range(4), 2)]
        self.assertEqual(powers.minors(2), chosen)
        self.assertEqual(powers.minors(4), [12])

    def test_minors_of_the_greatest_matrices(self):
        matrix = Matrix(any_rows(random.Random(3), 8, 8))
        self.assertEqual([len(matrix.minors(size)) for size in range(1, 9)], [64, 784, 3136, 4900, 3136, 784, 64, 1])
        self.assertEqual(matrix.minors(8), [matrix.determinant()])

    def test_the_list_of_minors_is_a_new_one(self):
        M.minors(1).append(7)
        self.assertEqual(M.minors(1), [1, 2, 3, 4, 5, 6])


class TestTimes(unittest.TestCase):
    def test_values(self):
        for vector in ([1, 0, -1], (1, 0, -1)):
            self.assertEqual(M.times(vector), [-2, -2])
        self.assertEqual(M.times([LONG, 0, 0]), [LONG, 4 * LONG])
        chance = random.Random(2)
        for height, width in ((1, 1), (8, 1), (1, 8), (5, 7)):
            rows, vector = any_rows(chance, height, width), any_rows(chance, 1, width)[0]
            found = Matrix(rows).times(vector)
            self.assertIs(type(found), list)
            self.assertEqual(found, times(rows, vector))

    def test_another_length(self):
        for vector in ([], [1], [1, 2], (1, 2), [1, 2, 3, 4]):
            found = raised(M.times, vector)
            self.assertEqual(found, ("UnlikeShapes", {"first": (2, 3), "second": len(vector)}))


class TestTexts(unittest.TestCase):
    CASES = [
        ("0", ((0,),)), ("5", ((5,),)), ("-5 0", ((-5, 0),)), ("1; 2", ((1,), (2,))), ("1 2; 3 4", ((1, 2), (3, 4))),
        ("1 -2 3; 0 10 -100", ((1, -2, 3), (0, 10, -100))), ("1; 0; -1", ((1,), (0,), (-1,))),
        ("9" * 30 + "; -" + "9" * 30, ((10 ** 30 - 1,), (1 - 10 ** 30,))),
    ]

    def test_str_and_read(self):
        for text, rows in self.CASES:
            self.assertEqual(str(Matrix(rows)), text)
            found = Matrix.read(text)
            self.assertIs(type(found), Matrix)
            self.assertEqual(found.rows, rows)

    def test_the_greatest_texts(self):
        matrix = Matrix(any_rows(random.Random(1), 40, 40, 10 ** 30 - 1))
        self.assertEqual(Matrix.read(str(matrix)), matrix)

    def test_bad_texts(self):
        long = "1" * 31
        cases = [
            ("", 0), (" ", 0), (";", 0), ("; 1", 0), (" 1", 0), ("1 ", 1), ("1  2", 1), ("1 2; ", 2), ("1;  2", 1),
            ("1 ;", 1), ("1 ; 2", 1), ("1; ;", 1), ("1; ; 2", 1), ("1;;", 0), ("1;; 2", 0), ("1;2", 0), ("1 2;3 4", 1),
            ("1;", 1), ("1 2;", 2), ("1; 2;", 2), ("1 2; 3 4;", 4), ("0;", 1), ("1 2; 3;", 3),
            ("-0", 0), ("1 -0; 2 3", 1), ("1 2; -0;", 2), ("01", 0), ("1 02; 3", 1), ("1; 00", 1), ("-01", 0),
            ("+1", 0), ("1 +2", 1), ("--1", 0), ("-", 0), ("-;", 0), ("1; -", 1), ("1-", 0), ("x", 0), ("1 x", 1),
            (long, 0), ("-" + long, 0), ("1; 2; " + long, 2), ("1 " + long + "; 3", 1), (long + ";", 0),
            ("1,2", 0), ("1, 2", 0), ("1\n2", 0), ("1 2\n", 1), ("1\t2", 0), ("1.0", 0), ("1_0", 0), ("0x1", 0),
            ("\u0661", 0), ("1; \u00b2", 1), ("\uff11", 0), ("1\u00a02", 0),
        ]
        for text, at in cases:
            self.assertEqual(raised(Matrix.read, text), ("BadText", {"at": at}), text)

    def test_bad_rows(self):
        cases = [("1 2; 3", 1), ("1; 2 3", 1), ("1 2; 3 4; 5 6 7", 2), ("1; 2; 3 4; 5 6", 2)]
        for text, at in cases:
            self.assertEqual(raised(Matrix.read, text), ("BadRow", {"at": at}), text)

    def test_the_form_is_checked_before_the_rows(self):
        for text in ("1 2; 3; x", "1 2; 3;", "1; 2 3; 04", "1; 2 3 "):
            with self.assertRaises(FieldError) as caught:
                Matrix.read(text)
            self.assertEqual(type(caught.exception).__name__, "BadText")


class TestExample(unittest.TestCase):
    def test_of_the_interface(self):
        m = Matrix([[1, 2], [3, 4]])
        found = [str(m * m), m.determinant(), str(m.transposed()), m.minors(1), m.times([1, -1])]
        self.assertEqual(found, ["7 10; 15 22", -2, "1 3; 2 4", [1, 2, 3, 4], [-1, -1]])


if __name__ == "__main__":
    unittest.main()
