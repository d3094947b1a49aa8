"""Tests of points 6.1 to 6.8, of 0.4 to 0.7 for systems, and of the examples of everyfield/systems.py."""

import random
import unittest
from itertools import product as choices

from plain import (
    LIMIT_PRIME, NO_CHARACTERISTICS, chars_where, is_zero, primes_of_minors, raised, rank as plain_rank, times,
)

from everyfield.chars import Chars
from everyfield.matrices import Matrix
from everyfield.systems import (
    barring, how_many_by, inverse, invertible, kernel, rank, rank_where, solution, solvable, solvable_by,
)

LONG = 12345678901234567890
SMALL = [0, 2, 3, 5, 7, 11]
TRIANGLE = Matrix([[1, 1, 0], [0, 1, 1], [1, 0, 1]])


def any_rows(chance, height, width, most=4):
    return [[chance.randint(-most, most) for _ in range(width)] for _ in range(height)]


def beside(rows, b):
    return [list(row) + [n] for row, n in zip(rows, b)]


def has_solution(rows, b, p):
    """True if the numbers b do not raise the rank."""
    return plain_rank(rows, p) == plain_rank(beside(rows, b), p)


def any_systems(seed, count, most=4):
    """Matrices of many shapes with numbers b, about half of which have a solution somewhere."""
    chance = random.Random(seed)
    for _ in range(count):
        height, width = chance.randint(1, 4), chance.randint(1, 4)
        rows = any_rows(chance, height, width, chance.choice([1, 2, most]))
        if chance.randint(0, 2) == 0:
            rows[-1] = [chance.choice([2, 3]) * n for n in rows[0]]
        b = any_rows(chance, 1, height)[0]
        if chance.randint(0, 1):
            b = times(rows, any_rows(chance, 1, width)[0])
        yield rows, b


class TestRank(unittest.TestCase):
    def test_by_the_minors(self):
        for rows, _ in any_systems(1, 150):
            for p in SMALL:
                self.assertEqual(rank(Matrix(rows), p=p), plain_rank(rows, p))

    def test_values(self):
        self.assertEqual([rank(Matrix([[0, 0]]), p=p) for p in (0, 2, LIMIT_PRIME)], [0, 0, 0])
        self.assertEqual([rank(Matrix.unit(8), p=p) for p in (0, 2, LIMIT_PRIME)], [8, 8, 8])
        self.assertEqual([rank(Matrix([[6, 12], [18, 6]]), p=p) for p in (0, 2, 3, 5)], [2, 0, 0, 1])
        limit = Matrix([[LIMIT_PRIME, 0], [0, 2]])
        self.assertEqual([rank(limit, p=p) for p in (0, 2, 3, LIMIT_PRIME)], [2, 1, 2, 1])
        self.assertEqual(rank(Matrix([[LONG, 1], [LONG * LONG, LONG]]), p=0), 1)

    def test_no_characteristics(self):
        for p in NO_CHARACTERISTICS:
            for matrix in (TRIANGLE, Matrix([[0]]), Matrix([[1, 2]])):
                self.assertEqual(raised(rank, matrix, p=p), ("BadCharacteristic", {"p": p}))

    def test_p_is_passed_by_keyword(self):
        for function in (rank, kernel, inverse):
            self.assertRaises(TypeError, function, TRIANGLE, 2)
        for function in (solution, barring):
            self.assertRaises(TypeError, function, TRIANGLE, [0, 0, 0], 2)


class TestRankWhere(unittest.TestCase):
    def texts(self, matrix):
        found = rank_where(matrix)
        self.assertIs(type(found), dict)
        self.assertEqual({type(chars) for chars in found.values()}, {Chars})
        self.assertEqual({type(n) for n in found}, {int})
        return {n: str(chars) for n, chars in found.items()}

    def test_one_rank(self):
        self.assertEqual(self.texts(Matrix([[0, 0], [0, 0]])), {0: "all but"})
        self.assertEqual(self.texts(Matrix([[1, 2, 3]])), {1: "all but"})
        self.assertEqual(self.texts(Matrix.unit(8)), {8: "all but"})
        self.assertEqual(self.texts(Matrix([[1, 0], [0, 0]])), {1: "all but"})

    def test_several_ranks(self):
        self.assertEqual(self.texts(TRIANGLE), {2: "primes 2", 3: "all but 2"})
        self.assertEqual(self.texts(Matrix([[-6]])), {0: "primes 2 3", 1: "all but 2 3"})
        self.assertEqual(self.texts(Matrix.diagonal([1, 6, 60], 3, 4)), {1: "primes 2 3", 2: "primes 5", 3: "all but 2 3 5"})
        self.assertEqual(self.texts(Matrix.diagonal([6, 6, 30], 3, 3)), {0: "primes 2 3", 2: "primes 5", 3: "all but 2 3 5"})
        self.assertEqual(self.texts(Matrix.diagonal([2, 3], 2, 2)), {1: "primes 2 3", 2: "all but 2 3"})
        self.assertEqual(self.texts(Matrix.diagonal([2, 2], 2, 2)), {0: "primes 2", 2: "all but 2"})
        limit = Matrix.diagonal([1, LIMIT_PRIME], 2, 2)
        self.assertEqual(self.texts(limit), {1: f"primes {LIMIT_PRIME}", 2: f"all but {LIMIT_PRIME}"})

    def test_numbers_that_are_long_together(self):
        matrix = Matrix.diagonal([999999937, 999999937 * 999999929], 2, 2)
        self.assertEqual(self.texts(matrix), {
            0: "primes 999999937", 1: "primes 999999929", 2: "all but 999999929 999999937",
        })

    def test_by_the_minors(self):
        for rows, _ in any_systems(2, 80):
            primes = primes_of_minors(rows)
            found = rank_where(Matrix(rows))
            self.assertEqual(set(found), {plain_rank(rows, p) for p in [0] + primes})
            for n, chars in found.items():
                self.assertEqual(chars, chars_where(lambda p: plain_rank(rows, p) == n, primes))

    def test_the_dictionary_is_a_new_one(self):
        rank_where(TRIANGLE).clear()
        self.assertEqual(len(rank_where(TRIANGLE)), 2)


class TestSolvable(unittest.TestCase):
    def text(self, rows, b):
        found = solvable(Matrix(rows), b)
        self.assertIs(type(found), Chars)
        return str(found)

    def test_values(self):
        self.assertEqual(self.text([[1, 1], [0, 1]], [5, 7]), "all but")
        self.assertEqual(self.text([[6]], [1]), "all but 2 3")
        self.assertEqual(self.text([[6]], [2]), "all but 3")
        self.assertEqual(self.text([[6]], [-12]), "all but")
        self.assertEqual(self.text([[6]], (0,)), "all but")
        self.assertEqual(self.text([[0]], [30]), "primes 2 3 5")
        self.assertEqual(self.text([[0]], [1]), "primes")
        self.assertEqual(self.text([[0, 0]], [0]), "all but")
        self.assertEqual(self.text([[1], [1]], [3, 5]), "primes 2")
        self.assertEqual(self.text([[1], [1]], [3, 3]), "all but")
        self.assertEqual(self.text([[1], [1], [1]], [0, 6, 15]), "primes 3")
        self.assertEqual(self.text([[2], [4]], [1, 5]), "primes 3")
        self.assertEqual(self.text([[2], [4]], [1, 4]), "primes")
        self.assertEqual(self.text([[2], [4]], [1, 2]), "all but 2")

    def test_near_the_limit(self):
        self.assertEqual(self.text([[LIMIT_PRIME]], [1]), f"all but {LIMIT_PRIME}")
        self.assertEqual(self.text([[1], [1]], [0, LIMIT_PRIME]), f"primes {LIMIT_PRIME}")

    def test_prime_divisors_that_are_not_needed(self):
        # Both primes divide both numbers of a row, or b asks for others alone.
        long = LIMIT_PRIME * 9999999943
        self.assertEqual(self.text([[long]], [long]), "all but")
        self.assertEqual(self.text([[6 * long]], [5 * long]), "all but 2 3")
        self.assertEqual(self.text([[long, 0], [0, 0]], [1, 6]), "primes 2 3")

    def test_by_the_ranks(self):
        for rows, b in any_systems(3, 150):
            primes = sorted(set(primes_of_minors(rows) + primes_of_minors(beside(rows, b))))
            self.assertEqual(solvable(Matrix(rows), b), chars_where(lambda p: has_solution(rows, b, p), primes))

    def test_by_trying_all_numbers(self):
        for rows, b in any_systems(4, 60):
            found = solvable(Matrix(rows), b)
            for p in (2, 3):
                tried = any(all((m - n) % p == 0 for m, n in zip(times(rows, x), b))
                            for x in choices(range(p), repeat=len(rows[0])))
                self.assertIs(p in found, tried)

    def test_another_length(self):
        for b in ([], [1], [1, 2], (1, 2, 3, 4)):
            expected = ("UnlikeShapes", {"first": (3, 2), "second": len(b)})
            self.assertEqual(raised(solvable, Matrix([[1, 2], [3, 4], [5, 6]]), b), expected)


class TestSolutionAndBarring(unittest.TestCase):
    def check_solution(self, rows, b, p):
        found = solution(Matrix(rows), b, p=p)
        self.assertIs(type(found), tuple)
        numbers, d = found
        self.assertIs(type(numbers), list)
        self.assertEqual({type(n) for n in numbers + [d]}, {int})
        self.assertEqual(len(numbers), len(rows[0]))
        self.assertFalse(is_zero(d, p))
        for m, n in zip(times(rows, numbers), b):
            self.assertTrue(is_zero(m - d * n, p))
        self.assertIsNone(barring(Matrix(rows), b, p=p))

    def check_barring(self, rows, b, p):
        found = barring(Matrix(rows), b, p=p)
        self.assertIs(type(found), list)
        self.assertEqual([type(n) for n in found], [int] * len(rows))
        for k in range(len(rows[0])):
            self.assertTrue(is_zero(sum(n * row[k] for n, row in zip(found, rows)), p))
        self.assertFalse(is_zero(sum(m * n for m, n in zip(found, b)), p))
        self.assertEqual(raised(solution, Matrix(rows), b, p=p), ("NoSolution", {}))

    def check(self, rows, b, p):
        if has_solution(rows, b, p):
            self.check_solution(rows, b, p)
        else:
            self.check_barring(rows, b, p)

    def test_many_systems(self):
        for rows, b in any_systems(5, 200):
            for p in SMALL:
                self.check(rows, b, p)

    def test_some_characteristics_only(self):
        rows, b = [[2], [4]], [1, 5]
        self.check_solution(rows, b, 3)
        for p in (0, 2, 5, LIMIT_PRIME):
            self.check_barring(rows, b, p)
        rows, b = [[1, 1, 0], [0, 1, 1], [1, 0, 1]], [1, 0, 0]
        self.check_barring(rows, b, 2)
        for p in (0, 3, 5, LIMIT_PRIME):
            self.check_solution(rows, b, p)

    def test_the_least_matrices(self):
        for p in SMALL + [LIMIT_PRIME]:
            self.check_solution([[0]], [0], p)
            self.check_solution([[0, 0], [0, 0]], (0, 0), p)
            self.check_solution([[1]], [5], p)
            self.check_barring([[0]], [1], p)
        self.check_barring([[6]], [5], 3)
        self.check_solution([[6]], [5], 5)
        self.check_solution([[LIMIT_PRIME]], [1], 0)
        self.check_barring([[LIMIT_PRIME]], [1], LIMIT_PRIME)
        self.check_solution([[LIMIT_PRIME]], [LIMIT_PRIME], LIMIT_PRIME)

    def test_great_systems(self):
        chance = random.Random(6)
        for height, width in ((8, 8), (8, 5), (5, 8)):
            rows = any_rows(chance, height, width, LONG)
            b = times(rows, any_rows(chance, 1, width)[0])
            for p in (0, 2, 3, LIMIT_PRIME):
                self.check_solution(rows, b, p)
        rows = any_rows(chance, 8, 4, LONG)
        b = any_rows(chance, 1, 8, LONG)[0]
        for p in (0, LIMIT_PRIME):
            self.check_barring(rows, b, p)

    def test_no_characteristics_and_another_length(self):
        for function in (solution, barring):
            for b in ([1, 0, 0], [1], [], [1, 2, 3, 4]):
                for p in NO_CHARACTERISTICS:
                    self.assertEqual(raised(function, TRIANGLE, b, p=p), ("BadCharacteristic", {"p": p}))
                if len(b) != 3:
                    for p in (0, 2, 3):
                        expected = ("UnlikeShapes", {"first": (3, 3), "second": len(b)})
                        self.assertEqual(raised(function, TRIANGLE, b, p=p), expected)

    def test_another_length_beside_a_matrix_that_is_not_square(self):
        for function in (solution, barring):
            for rows in ([[1, 2, 3], [4, 5, 6]], [[1, 2]], [[1, 2], [3, 4], [5, 6]]):
                matrix = Matrix(rows)
                # The width is no right length either.
                for b in ([], [1] * matrix.width, [1] * (matrix.height + 1)):
                    expected = ("UnlikeShapes", {"first": (matrix.height, matrix.width), "second": len(b)})
                    for p in (0, 2):
                        self.assertEqual(raised(function, matrix, b, p=p), expected)

    def test_arguments_and_answers(self):
        b = [1, 0, 1]
        solution(TRIANGLE, b, p=3)[0].append(5)
        self.assertEqual(len(solution(TRIANGLE, b, p=3)[0]), 3)
        barring(TRIANGLE, [1, 0, 0], p=2).append(5)
        self.assertEqual(len(barring(TRIANGLE, [1, 0, 0], p=2)), 3)
        self.assertEqual(b, [1, 0, 1])


class TestKernel(unittest.TestCase):
    def check(self, rows, p):
        found = kernel(Matrix(rows), p=p)
        self.assertIs(type(found), list)
        many = len(rows[0]) - plain_rank(rows, p)
        self.assertEqual(len(found), many)
        for vector in found:
            self.assertIs(type(vector), list)
            self.assertEqual([type(n) for n in vector], [int] * len(rows[0]))
            self.assertTrue(all(is_zero(n, p) for n in times(rows, vector)))
        if many:
            self.assertEqual(plain_rank(found, p), many)

    def test_many_matrices(self):
        for rows, _ in any_systems(7, 150):
            for p in SMALL:
                self.check(rows, p)

    def test_values(self):
        self.assertEqual(kernel(Matrix.unit(3), p=0), [])
        self.assertEqual(kernel(TRIANGLE, p=0), [])
        self.assertEqual(kernel(TRIANGLE, p=3), [])
        self.assertEqual([[n % 2 for n in row] for row in kernel(TRIANGLE, p=2)], [[1, 1, 1]])
        self.assertEqual(kernel(Matrix([[1], [2]]), p=LIMIT_PRIME), [])
        self.assertEqual(len(kernel(Matrix([[LIMIT_PRIME, LIMIT_PRIME]]), p=LIMIT_PRIME)), 2)
        self.check([[0, 0, 0]], 0)
        self.check([[0] * 8], 2)
        self.check([[2, 4], [6, 8]], 2)

    def test_great_matrices(self):
        chance = random.Random(8)
        for height, width in ((3, 8), (5, 6)):
            rows = any_rows(chance, height, width, LONG)
            for p in (0, 2, 7, LIMIT_PRIME):
                self.check(rows, p)

    def test_no_characteristics(self):
        for p in NO_CHARACTERISTICS:
            for matrix in (TRIANGLE, Matrix([[0]])):
                self.assertEqual(raised(kernel, matrix, p=p), ("BadCharacteristic", {"p": p}))


class TestInverse(unittest.TestCase):
    def check(self, matrix, p):
        found = inverse(matrix, p=p)
        self.assertIs(type(found), tuple)
        other, d = found
        self.assertEqual((type(other), type(d)), (Matrix, int))
        self.assertFalse(is_zero(d, p))
        for together in (matrix * other, other * matrix):
            left = together - Matrix.unit(matrix.height).scaled(d)
            self.assertTrue(all(is_zero(n, p) for row in left.rows for n in row))

    def test_many_matrices(self):
        chance = random.Random(9)
        for size in range(1, 6):
            for most in (1, 3, LONG):
                for _ in range(6):
                    matrix = Matrix(any_rows(chance, size, size, most))
                    for p in SMALL + [LIMIT_PRIME]:
                        if is_zero(matrix.determinant(), p):
                            self.assertEqual(raised(inverse, matrix, p=p), ("NoInverse", {}))
                        else:
                            self.check(matrix, p)

    def test_values(self):
        self.check(Matrix([[7]]), 0)
        self.check(Matrix([[7]]), 5)
        self.check(Matrix([[LIMIT_PRIME]]), 0)
        self.check(Matrix.diagonal([2, 3], 2, 2), 5)
        self.check(Matrix.diagonal([2, 3], 2, 2), 0)
        self.check(Matrix.diagonal([-1] * 8, 8, 8), 2)
        for matrix, p in ((Matrix([[7]]), 7), (Matrix([[0]]), 0), (Matrix.diagonal([2, 3], 2, 2), 3), (TRIANGLE, 2)):
            self.assertEqual(raised(inverse, matrix, p=p), ("NoInverse", {}))

    def test_errors(self):
        for height, width in ((1, 2), (2, 1), (8, 7)):
            matrix = Matrix([[0] * width] * height)
            for p in (0, 2, LIMIT_PRIME):
                self.assertEqual(raised(inverse, matrix, p=p), ("NotSquare", {"height": height, "width": width}))
            for p in NO_CHARACTERISTICS:
                self.assertEqual(raised(inverse, matrix, p=p), ("BadCharacteristic", {"p": p}))
        for p in NO_CHARACTERISTICS:
            for matrix in (TRIANGLE, Matrix([[0]])):
                self.assertEqual(raised(inverse, matrix, p=p), ("BadCharacteristic", {"p": p}))

    def test_invertible(self):
        cases = [
            ([[1]], "all but"), ([[-1]], "all but"), ([[0]], "primes"), ([[-30]], "all but 2 3 5"),
            ([[1, 2], [3, 4]], "all but 2"), ([[1, 2], [2, 4]], "primes"), ([[2, 0], [0, 2]], "all but 2"),
            ([[LIMIT_PRIME, 0], [0, 1]], f"all but {LIMIT_PRIME}"), ([[6, 0], [0, 35]], "all but 2 3 5 7"),
        ]
        for rows, text in cases:
            found = invertible(Matrix(rows))
            self.assertIs(type(found), Chars)
            self.assertEqual(str(found), text)
        chance = random.Random(10)
        for size in (1, 2, 3, 4):
            for _ in range(20):
                matrix = Matrix(any_rows(chance, size, size))
                self.assertEqual(invertible(matrix), Chars.unit_of(matrix.determinant()))

    def test_invertible_of_a_matrix_that_is_not_square(self):
        for height, width in ((1, 2), (2, 1), (8, 7)):
            for matrix in (Matrix([[0] * width] * height), Matrix.diagonal([1], height, width)):
                self.assertEqual(raised(invertible, matrix), ("NotSquare", {"height": height, "width": width}))


class TestRemainders(unittest.TestCase):
    def test_by_trying_all_numbers(self):
        chance = random.Random(11)
        for rows, b in any_systems(12, 80, 9):
            n = chance.randint(1, 6 if len(rows[0]) == 4 else 12)
            tuples = list(choices(range(n), repeat=len(rows[0])))
            values = [tuple(m % n for m in times(rows, x)) for x in tuples]
            self.assertIs(solvable_by(Matrix(rows), b, n), tuple(m % n for m in b) in values)
            self.assertEqual(how_many_by(Matrix(rows), n), values.count((0,) * len(rows)))

    def test_values(self):
        self.assertEqual([how_many_by(Matrix([[4, 6]]), n) for n in (1, 2, 3, 4)], [1, 4, 3, 8])
        self.assertEqual([how_many_by(Matrix([[0]]), n) for n in (1, 7)], [1, 7])
        self.assertEqual(how_many_by(Matrix([[0] * 8]), LONG), LONG ** 8)
        self.assertEqual(how_many_by(Matrix.diagonal([2, 6], 3, 4), 12), 2 * 6 * 144)
        self.assertEqual(how_many_by(Matrix([[1], [2]]), 10), 1)
        self.assertIs(solvable_by(Matrix([[0]]), [0], 5), True)
        self.assertIs(solvable_by(Matrix([[0]]), [5], 5), True)
        self.assertIs(solvable_by(Matrix([[0]]), (6,), 5), False)
        self.assertIs(solvable_by(Matrix([[2], [0]]), [4, 6], 6), True)
        self.assertIs(solvable_by(Matrix([[2], [0]]), [4, 3], 6), False)
        self.assertIs(solvable_by(Matrix([[2], [0]]), [3, 6], 6), False)

    def test_everything_is_solvable_by_1(self):
        for rows, b in any_systems(13, 30):
            self.assertIs(solvable_by(Matrix(rows), b, 1), True)
            self.assertEqual(how_many_by(Matrix(rows), 1), 1)

    def test_many_digits(self):
        n = 10 ** 60
        self.assertIs(solvable_by(Matrix([[10 ** 40]]), [3 * 10 ** 40], n), True)
        self.assertIs(solvable_by(Matrix([[10 ** 40]]), [3 * 10 ** 39], n), False)
        self.assertEqual(how_many_by(Matrix([[6 * 10 ** 40]]), n), 2 * 10 ** 40)
        self.assertEqual(how_many_by(Matrix([[1, LONG]]), n), n)

    def test_bad_numbers(self):
        for n in (0, -1, -7, -LONG):
            for matrix, b in ((TRIANGLE, [1, 2, 3]), (TRIANGLE, [1]), (Matrix([[1, 2]]), [])):
                self.assertEqual(raised(solvable_by, matrix, b, n), ("BadNumber", {"n": n}))
                self.assertEqual(raised(how_many_by, matrix, n), ("BadNumber", {"n": n}))

    def test_another_length(self):
        for b in ([], [1], (1, 2, 3)):
            for n in (1, 6):
                expected = ("UnlikeShapes", {"first": (2, 3), "second": len(b)})
                self.assertEqual(raised(solvable_by, Matrix([[1, 2, 3], [4, 5, 6]]), b, n), expected)


class TestExamples(unittest.TestCase):
    def test_of_the_interface(self):
        m = TRIANGLE
        found = [rank(m, p=0), rank(m, p=2), str(rank_where(m)[2]), str(invertible(m)), str(solvable(m, [1, 0, 0]))]
        self.assertEqual(found + [how_many_by(m, 4)], [3, 2, "primes 2", "all but 2", "all but 2", 2])
        found = [solvable_by(Matrix([[4, 6]]), [2], 100), solvable_by(Matrix([[4, 6]]), [1], 100)]
        self.assertEqual(found, [True, False])
        numbers, d = solution(m, [1, 0, 0], p=0)
        self.assertEqual(m.times(numbers), [d, 0, 0])


if __name__ == "__main__":
    unittest.main()
