"""Tests of points 3.1 to 3.9, of 0.4 to 0.6 for polynomials, and of the examples of everyfield/poly.py."""

import random
import unittest
from fractions import Fraction
from itertools import product
from math import gcd

from plain import LIMIT_PRIME, NO_CHARACTERISTICS, determinant_by_orders, raised

from everyfield.poly import Poly, divided_in, gcd_in, in_char, resultant, roots_in

ZERO = Poly([])
T = Poly.unknown()
LONG = 12345678901234567890
LONGER = 123456789012345678901234567890

# Without and with zeros between, negative, constant, of the greatest degree, and with long coefficients.
SAMPLES = [
    [], [1], [-1], [6], [0, 1], [0, -4], [1, 0, 1], [-1, 0, 1], [2, 4], [6, 9, 0, -3], [0, 0, 5], [1] * 13,
    [LONG, -LONGER, 1], [LONGER], [0, LONG * 2, 0, -LONG * 6], list(range(-6, 7)),
]
POLYS = [Poly(numbers) for numbers in SAMPLES]


def stripped(numbers):
    numbers = list(numbers)
    while numbers and numbers[-1] == 0:
        numbers.pop()
    return tuple(numbers)


def plain_sum(first, second, sign=1):
    numbers = [0] * max(len(first), len(second))
    for k, n in enumerate(first):
        numbers[k] += n
    for k, n in enumerate(second):
        numbers[k] += sign * n
    return stripped(numbers)


def plain_product(first, second):
    numbers = [0] * (len(first) + len(second))
    for i, m in enumerate(first):
        for k, n in enumerate(second):
            numbers[i + k] += m * n
    return stripped(numbers)


def modulo(numbers, p):
    return stripped([n % p if p else n for n in numbers])


def plain_rest(first, second):
    """The rest of a division of lists of fractions."""
    first = list(first)
    while len(first) >= len(second):
        by = Fraction(first[-1]) / second[-1]
        for k in range(len(second)):
            first[len(first) - len(second) + k] -= by * second[k]
        first = list(stripped(first[:-1]))
    return first


def plain_gcd(first, second):
    """The greatest common divisor over the fractions, with content 1 and a positive last coefficient."""
    while second:
        first, second = second, plain_rest(first, second)
    if not first:
        return ()
    lower, upper = 1, 0
    for n in first:
        lower = lower * Fraction(n).denominator // gcd(lower, Fraction(n).denominator)
    for n in first:
        upper = gcd(upper, int(n * lower))
    sign = 1 if first[-1] > 0 else -1
    return tuple(sign * int(n * lower) // upper for n in first)


def all_monic(p, most):
    """All lists of coefficients modulo p with the last one 1, up to a degree, the greatest degrees first."""
    for degree in range(most, -1, -1):
        for numbers in product(range(p), repeat=degree):
            yield numbers + (1,)


def divides(d, f, p):
    """True if the polynomial d with the last coefficient 1 divides f modulo p, found by long division."""
    rest = list(f)
    while len(rest) >= len(d):
        by = rest[-1]
        for k in range(len(d)):
            rest[len(rest) - len(d) + k] -= by * d[k]
        rest.pop()
    return all(n % p == 0 for n in rest)


def shape_rows(first, second):
    """The rows of the matrix of point 3.9."""
    m, n = len(first) - 1, len(second) - 1
    rows = [[0] * i + list(reversed(first)) + [0] * (n - 1 - i) for i in range(n)]
    return rows + [[0] * i + list(reversed(second)) + [0] * (m - 1 - i) for i in range(m)]


class TestMaking(unittest.TestCase):
    def test_coefficients_and_degree(self):
        cases = [
            ([], ()), ([0], ()), ([0, 0, 0], ()), ([5], (5,)), ([0, 1], (0, 1)), ([1, 0, 2, 0, 0], (1, 0, 2)),
            ([0, 0, -3], (0, 0, -3)), ([LONG, LONGER, 0], (LONG, LONGER)), ([1] * 13, (1,) * 13),
        ]
        for numbers, expected in cases:
            for given in (list(numbers), tuple(numbers)):
                poly = Poly(given)
                self.assertEqual(poly.coefficients, expected)
                self.assertIs(type(poly.coefficients), tuple)
                self.assertEqual(poly.degree(), len(expected) - 1)

    def test_the_polynomial_zero(self):
        self.assertEqual((ZERO.coefficients, ZERO.degree(), str(ZERO), ZERO(7)), ((), -1, "0", 0))

    def test_a_list_that_changes_later(self):
        numbers = [1, 2, 0]
        poly = Poly(numbers)
        self.assertEqual(numbers, [1, 2, 0])
        numbers[0] = 7
        numbers.append(5)
        self.assertEqual(poly.coefficients, (1, 2))

    def test_unknown_and_whole(self):
        self.assertIs(type(Poly.unknown()), Poly)
        self.assertEqual(Poly.unknown().coefficients, (0, 1))
        for n in (1, -1, 12, -LONGER):
            self.assertEqual(Poly.whole(n).coefficients, (n,))
        self.assertEqual(Poly.whole(0).coefficients, ())


class TestOperators(unittest.TestCase):
    def test_sum_difference_and_product(self):
        for first in POLYS:
            for second in POLYS:
                mine, others = first.coefficients, second.coefficients
                self.assertEqual((first + second).coefficients, plain_sum(mine, others))
                self.assertEqual((first - second).coefficients, plain_sum(mine, others, -1))
                self.assertEqual((first * second).coefficients, plain_product(mine, others))
                self.assertEqual({type(first + second), type(first - second), type(first * second)}, {Poly})

    def test_opposite(self):
        for poly in POLYS:
            self.assertEqual((-poly).coefficients, tuple(-n for n in poly.coefficients))
            self.assertEqual(poly - poly, ZERO)
            self.assertEqual(poly + -poly, ZERO)

    def test_zero_in_every_operation(self):
        for poly in POLYS:
            self.assertEqual([poly + ZERO, ZERO + poly, poly - ZERO], [poly, poly, poly])
            self.assertEqual([ZERO - poly, poly * ZERO, ZERO * poly], [-poly, ZERO, ZERO])
        self.assertEqual([ZERO + ZERO, ZERO - ZERO, ZERO * ZERO, -ZERO], [ZERO] * 4)

    def test_leading_terms_that_cancel(self):
        self.assertEqual((Poly([1, 2, 3]) - Poly([0, 2, 3])).coefficients, (1,))
        self.assertEqual((Poly([0, 0, 3]) + Poly([5, 0, -3])).degree(), 0)

    def test_nothing_changes(self):
        first, second = Poly([1, 2]), Poly([3, 4])
        first + second, first - second, first * second, -first, first(3), first == second, str(first)
        first.content(), first.primitive(), first.derivative(), in_char(first, 2), gcd_in(first, second, 5)
        divided_in(first, second, 3), roots_in(first, 5), resultant(first, second)
        self.assertEqual((first.coefficients, second.coefficients), ((1, 2), (3, 4)))

    def test_value(self):
        for poly in POLYS:
            for x in (0, 1, -1, 2, -3, 10, LONG):
                expected = sum(n * x ** k for k, n in enumerate(poly.coefficients))
                self.assertEqual(poly(x), expected)

    def test_equality(self):
        for at, first in enumerate(POLYS):
            for other, second in enumerate(POLYS):
                self.assertIs(first == second, at == other)
                self.assertIs(first != second, at != other)
        self.assertIs(Poly([1, 2, 0]) == Poly((1, 2)), True)
        self.assertIs(Poly([0]) == ZERO, True)

    def test_no_value_of_another_kind_is_equal(self):
        class Likeness:
            coefficients = (5,)

        for other in [5, (5,), [5], "5", None, True, Likeness(), object()]:
            self.assertIs(Poly([5]) == other, False)
            self.assertIs(other == Poly([5]), False)
            self.assertIs(Poly([5]) != other, True)
        for other in [0, (), [], "", "0", None, False]:
            self.assertIs(ZERO == other, False)


class TestContent(unittest.TestCase):
    def test_content(self):
        cases = [
            ([], 0), ([1], 1), ([-6], 6), ([6, 9, 0, -3], 3), ([0, 0, 5], 5), ([2, 3], 1), ([-4, -8], 4), ([0, -4], 4),
            ([LONGER * 6, -LONGER * 4], LONGER * 2),
        ]
        for numbers, content in cases:
            self.assertEqual(Poly(numbers).content(), content)

    def test_primitive(self):
        self.assertEqual(ZERO.primitive(), ZERO)
        cases = [([6, 9, 0, -3], (2, 3, 0, -1)), ([-6], (-1,)), ([-4, -8], (-1, -2)), ([LONG * 2, LONG * 4], (1, 2))]
        for numbers, expected in cases:
            self.assertEqual(Poly(numbers).primitive().coefficients, expected)

    def test_content_times_primitive(self):
        for poly in POLYS:
            self.assertEqual(Poly.whole(poly.content()) * poly.primitive(), poly)
            for other in POLYS:
                self.assertEqual((poly * other).content(), poly.content() * other.content())

    def test_derivative(self):
        cases = [([], ()), ([7], ()), ([7, 5], (5,)), ([1, 2, 3, -4], (2, 6, -12)), ([0, 0, 0, 1], (0, 0, 3))]
        for numbers, expected in cases:
            self.assertEqual(Poly(numbers).derivative().coefficients, expected)
        for first in POLYS:
            for second in POLYS:
                self.assertEqual((first + second).derivative(), first.derivative() + second.derivative())
                expected = first.derivative() * second + first * second.derivative()
                self.assertEqual((first * second).derivative(), expected)


class TestTexts(unittest.TestCase):
    def test_str(self):
        cases = [([], "0"), ([0, 0], "0"), ([5], "5"), ([1, 0, -1], "1 0 -1"), ([0, 1], "0 1"), ([-LONGER], f"-{LONGER}")]
        for numbers, text in cases:
            self.assertEqual(str(Poly(numbers)), text)
        self.assertEqual(len(str(Poly([10 ** 999, -1]))), 1003)

    def test_read(self):
        cases = [
            ("0", ()), ("5", (5,)), ("-5", (-5,)), ("0 0 1", (0, 0, 1)), ("1 0 -1", (1, 0, -1)),
            ("9" * 30, (10 ** 30 - 1,)), ("-" + "9" * 30 + " 1", (1 - 10 ** 30, 1)), ("10 20", (10, 20)),
        ]
        for text, expected in cases:
            found = Poly.read(text)
            self.assertIs(type(found), Poly)
            self.assertEqual(found.coefficients, expected)
            self.assertEqual(str(found), text)

    def test_read_gives_back_what_was_written(self):
        for poly in POLYS:
            self.assertEqual(Poly.read(str(poly)), poly)

    def test_bad_texts(self):
        cases = [
            ("", 0), (" ", 0), ("-0", 0), ("1 -0", 1), ("1 -0 0", 1), ("01", 0), ("00", 0), ("-01", 0), ("1 02 3", 1),
            ("+1", 0), ("1 +2", 1), ("--1", 0), ("-", 0), ("1 - 2", 1), ("1-", 0), ("1" * 31, 0), ("-" + "1" * 31, 0),
            ("1 2 " + "1" * 31, 2), ("0" * 31, 0), (" 1", 0), ("1 ", 1), ("1  2", 1), ("1 2 ", 2), ("1\n", 0),
            ("1\t2", 0), ("1 2\n", 1), ("t", 0), ("1 x 0", 1), ("1.0", 0), ("1_0", 0), ("0x1", 0), ("1;", 0),
            ("0 0", 1), ("1 0", 1), ("1 2 0", 2), ("0 0 0", 2), ("1 0 x", 2), ("1 0 0 -0", 3),
            ("\u0661", 0), ("\u00b2", 0), ("\uff11 2", 0), ("1\u00a02", 0), ("\u22121", 0),
        ]
        for text, at in cases:
            self.assertEqual(raised(Poly.read, text), ("BadText", {"at": at}), text)


class TestInChar(unittest.TestCase):
    def test_coefficients(self):
        for numbers in SAMPLES:
            for p in (0, 2, 3, 5, 7, LIMIT_PRIME):
                found = in_char(Poly(numbers), p)
                self.assertIs(type(found), Poly)
                self.assertEqual(found.coefficients, modulo(numbers, p))

    def test_zero_in_the_characteristic(self):
        self.assertEqual(in_char(Poly([6, -12, 18]), 2), ZERO)
        self.assertEqual(in_char(Poly([6, -12, 18]), 3), ZERO)
        self.assertEqual(in_char(Poly([6, -12, 18]), 5).coefficients, (1, 3, 3))
        self.assertEqual(in_char(Poly([LIMIT_PRIME * LONG]), LIMIT_PRIME), ZERO)
        self.assertEqual(in_char(Poly([1, 2, 4]), 2).degree(), 0)

    def test_no_characteristics(self):
        for p in NO_CHARACTERISTICS:
            for poly in (ZERO, Poly([1, 2])):
                self.assertEqual(raised(in_char, poly, p), ("BadCharacteristic", {"p": p}))


class TestGcd(unittest.TestCase):
    def test_in_the_characteristic_0(self):
        chance = random.Random(3)
        for _ in range(150):
            parts = [Poly([chance.randint(-5, 5) for _ in range(chance.randint(0, 4))]) for _ in range(3)]
            first, second = parts[0] * parts[2], parts[1] * parts[2]
            found = gcd_in(first, second, 0)
            self.assertIs(type(found), Poly)
            self.assertEqual(found.coefficients, plain_gcd(first.coefficients, second.coefficients))

    def test_long_coefficients_in_the_characteristic_0(self):
        shared = Poly([LONG, -LONGER, 7])
        first, second = shared * Poly([LONGER, 1, LONG]), shared * Poly([-6, -LONG * 3])
        self.assertEqual(gcd_in(first, second, 0), shared)
        self.assertEqual(gcd_in(-first, second, 0), shared)
        twelve = Poly([LONGER + k for k in range(13)])
        self.assertEqual(gcd_in(twelve, Poly([LONG + 7 * k * k for k in range(13)]), 0), Poly([1]))

    def test_content_and_sign_in_the_characteristic_0(self):
        self.assertEqual(gcd_in(Poly([6, 6]), Poly([-4, -4]), 0).coefficients, (1, 1))
        self.assertEqual(gcd_in(Poly([6]), Poly([4]), 0).coefficients, (1,))
        self.assertEqual(gcd_in(Poly([-6]), ZERO, 0).coefficients, (1,))
        self.assertEqual(gcd_in(ZERO, Poly([4, 0, -2]), 0).coefficients, (-2, 0, 1))
        self.assertEqual(gcd_in(Poly([4, 0, -2]), ZERO, 0).coefficients, (-2, 0, 1))

    def test_in_small_characteristics(self):
        for p, size, step in ((2, 4, 1), (3, 3, 1), (5, 3, 17)):
            lists = list(product(range(p), repeat=size))[::step]
            for first in lists:
                for second in lists:
                    found = gcd_in(Poly(first), Poly(second), p).coefficients
                    if not stripped(first) and not stripped(second):
                        self.assertEqual(found, ())
                        continue
                    both = [d for d in all_monic(p, size - 1) if divides(d, first, p) and divides(d, second, p)]
                    self.assertEqual(found, both[0])

    def test_numbers_are_read_in_the_characteristic(self):
        self.assertEqual(gcd_in(Poly([-1, 0, 1, 5]), Poly([6, -3, 3, 10]), 5).coefficients, (1,))
        self.assertEqual(gcd_in(Poly([-1, 0, 1, 5]), Poly([6, -3, 1, 10]), 5).coefficients, (1, 1))
        self.assertEqual(gcd_in(Poly([-1, 0, 1, 5]), Poly([6, -3, 7, 10]), 5).coefficients, (4, 1))
        self.assertEqual(gcd_in(Poly([4, 4]), Poly([2, 2, 2]), 2).coefficients, ())
        self.assertEqual(gcd_in(Poly([4, 4]), Poly([1, 1, 3]), 2).coefficients, (1, 1, 1))
        self.assertEqual(gcd_in(Poly([1, 1, 3]), Poly([4, 4]), 2).coefficients, (1, 1, 1))
        self.assertEqual(gcd_in(Poly([1, 5]), ZERO, 3).coefficients, (2, 1))
        self.assertEqual(gcd_in(Poly([2]), Poly([0, 1]), 3).coefficients, (1,))

    def test_near_the_limit(self):
        p = LIMIT_PRIME
        shared = Poly([LONG, 5, 1])
        first, second = shared * Poly([3, p - 2, 8]), shared * Poly([-LONG, 1])
        self.assertEqual(gcd_in(first, second, p), in_char(shared, p))
        self.assertEqual(gcd_in(Poly([p, 2 * p]), Poly([-p]), p), ZERO)
        self.assertEqual(gcd_in(Poly([p, 2 * p]), Poly([1, 3]), p)(0) * 3 % p, 1)

    def test_both_zero(self):
        for p in (0, 2, 3, LIMIT_PRIME):
            self.assertEqual(gcd_in(ZERO, ZERO, p), ZERO)

    def test_no_characteristics(self):
        for p in NO_CHARACTERISTICS:
            for first, second in ((ZERO, ZERO), (Poly([1, 2]), Poly([3]))):
                self.assertEqual(raised(gcd_in, first, second, p), ("BadCharacteristic", {"p": p}))


class TestDivision(unittest.TestCase):
    def check(self, first, second, p):
        found = divided_in(first, second, p)
        self.assertIs(type(found), tuple)
        quotient, rest = found
        self.assertEqual([type(quotient), type(rest)], [Poly, Poly])
        for n in quotient.coefficients + rest.coefficients:
            self.assertTrue(0 <= n < p)
        again = plain_sum(plain_product(quotient.coefficients, second.coefficients), rest.coefficients)
        self.assertEqual(modulo(again, p), modulo(first.coefficients, p))
        self.assertLess(rest.degree(), len(modulo(second.coefficients, p)) - 1)

    def test_all_small_ones(self):
        for p, size in ((2, 5), (3, 4), (5, 3)):
            polys = [Poly(numbers) for numbers in product(range(p), repeat=size)]
            for first in polys[::3]:
                for second in polys[1::2]:
                    self.check(first, second, p)

    def test_others(self):
        for p in (2, 3, 7, LIMIT_PRIME):
            for first in POLYS:
                for second in POLYS:
                    if modulo(second.coefficients, p):
                        self.check(first, second, p)

    def test_values(self):
        quotient, rest = divided_in(Poly([1, 0, 0, 1]), Poly([3, 2]), 5)
        self.assertEqual((quotient.coefficients, rest.coefficients), ((3, 3, 3), (2,)))
        quotient, rest = divided_in(Poly([7, 9]), Poly([3, 1, 10]), 5)
        self.assertEqual((quotient.coefficients, rest.coefficients), ((4,), ()))
        quotient, rest = divided_in(Poly([7, 9]), Poly([3, 1, 1]), 5)
        self.assertEqual((quotient, rest.coefficients), (ZERO, (2, 4)))
        quotient, rest = divided_in(Poly([4, 3]), Poly([2]), 5)
        self.assertEqual((quotient.coefficients, rest), ((2, 4), ZERO))

    def test_errors(self):
        for p in [0] + NO_CHARACTERISTICS:
            for second in (ZERO, Poly([2]), Poly([1, 1])):
                self.assertEqual(raised(divided_in, Poly([1, 2]), second, p), ("BadCharacteristic", {"p": p}))
        for second, p in ((ZERO, 2), (Poly([6, 9]), 3), (Poly([0, LIMIT_PRIME]), LIMIT_PRIME)):
            for first in (ZERO, Poly([1, 2])):
                self.assertEqual(raised(divided_in, first, second, p), ("NoInverse", {}))
        self.assertIsNone(raised(divided_in, Poly([1, 2]), Poly([6, 9]), 2))


class TestRoots(unittest.TestCase):
    def test_values(self):
        self.assertEqual(roots_in(Poly([-1, 0, 1]), 7), [1, 6])
        self.assertEqual(roots_in(Poly([1, 0, 1]), 3), [])
        self.assertEqual(roots_in(Poly([3]), 5), [])
        self.assertEqual(roots_in(Poly([0, -1, 0, 0, 0, 1]), 5), [0, 1, 2, 3, 4])
        self.assertEqual(roots_in(Poly([-LONG, 1]), 1999), [LONG % 1999])

    def test_zero_in_the_characteristic(self):
        self.assertEqual(roots_in(ZERO, 3), [0, 1, 2])
        self.assertEqual(roots_in(Poly([14, -7]), 7), list(range(7)))
        self.assertEqual(roots_in(Poly([2, 4, 6]), 2), [0, 1])

    def test_all_samples(self):
        for poly in POLYS:
            for p in (2, 3, 5, 11, 101):
                found = roots_in(poly, p)
                self.assertEqual(found, [x for x in range(p) if poly(x) % p == 0])

    def test_the_greatest_characteristic(self):
        poly = (T - Poly.whole(1998)) * (T - Poly.whole(5)) * (T * T + Poly.whole(1))
        self.assertEqual(roots_in(poly, 1999), [5, 1998])

    def test_the_list_is_a_new_one(self):
        roots_in(T, 5).append(3)
        self.assertEqual(roots_in(T, 5), [0])

    def test_no_characteristics(self):
        for p in [0] + NO_CHARACTERISTICS:
            for poly in (ZERO, T):
                self.assertEqual(raised(roots_in, poly, p), ("BadCharacteristic", {"p": p}))


class TestResultant(unittest.TestCase):
    def test_the_determinant(self):
        lists = [[3], [-2], [1, 2], [-3, 5], [0, 1], [1, 0, 1], [-1, 0, 1], [2, -3, 4], [0, 0, 5], [1, 2, 3, 4], [0, 1, 0, -2]]
        for first in lists:
            for second in lists:
                expected = determinant_by_orders(shape_rows(first, second))
                self.assertEqual(resultant(Poly(first), Poly(second)), expected)

    def test_both_orders(self):
        self.assertEqual(resultant(Poly([1, 2]), Poly([3, 5])), 1)
        self.assertEqual(resultant(Poly([3, 5]), Poly([1, 2])), -1)
        self.assertEqual(resultant(Poly([1, 0, 1]), Poly([-2, 1])), 5)
        self.assertEqual(resultant(Poly([-2, 1]), Poly([1, 0, 1])), 5)

    def test_constants(self):
        self.assertEqual(resultant(Poly([5]), Poly([-7])), 1)
        self.assertEqual(resultant(Poly([5]), Poly([1, 2, 3])), 25)
        self.assertEqual(resultant(Poly([1, 2, 3, 4]), Poly([-2])), -8)

    def test_the_product_over_the_zeros(self):
        chance = random.Random(8)
        for _ in range(60):
            zeros = [chance.randint(-4, 4) for _ in range(chance.randint(0, 6))]
            last = chance.choice([1, -1, 2, 3])
            first = Poly.whole(last)
            for x in zeros:
                first = first * (T - Poly.whole(x))
            second = Poly([chance.randint(-9, 9) for _ in range(chance.randint(1, 6))] + [chance.choice([-2, 1, 5])])
            expected = last ** second.degree()
            for x in zeros:
                expected *= second(x)
            self.assertEqual(resultant(first, second), expected)

    def test_common_zeros(self):
        first, second = Poly([-1, 0, 1]), Poly([1, 2, 1])
        self.assertEqual([resultant(first, second), resultant(second, first)], [0, 0])
        shared = Poly([LONG, 1, LONGER])
        self.assertEqual(resultant(shared * Poly([3, 4]), shared * Poly([1] * 11)), 0)

    def test_common_zeros_in_each_characteristic(self):
        chance = random.Random(9)
        for _ in range(100):
            first = Poly([chance.randint(-4, 4) for _ in range(3)] + [1])
            second = Poly([chance.randint(-4, 4) for _ in range(3)] + [2])
            found = resultant(first, second)
            for p in (0, 2, 3, 5, 7):
                is_zero = found % p == 0 if p else found == 0
                self.assertIs(is_zero, gcd_in(first, second, p).degree() > 0)

    def test_the_greatest_degrees(self):
        first, second = Poly([1] + [0] * 11 + [1]), Poly([1] * 13)
        # At a zero x of first, second is (x^13 - 1) / (x - 1), which is -(x + 1) / (x - 1) as x^12 is -1.
        # The products of x + 1 and of x - 1 over the twelve zeros are first(-1) and first(1), and both are 2.
        self.assertEqual(resultant(first, second), 1)
        long = Poly([LONGER] * 12 + [1])
        self.assertEqual(resultant(T * T * T - Poly.whole(1), long), 12 * LONGER + 1)

    def test_zero(self):
        for first, second in ((ZERO, ZERO), (ZERO, Poly([1, 2])), (Poly([3]), ZERO), (Poly([1, 2]), Poly([0]))):
            self.assertEqual(raised(resultant, first, second), ("BadNumber", {"n": 0}))


class TestExamples(unittest.TestCase):
    def test_of_the_interface(self):
        t = Poly.unknown()
        f = t * t + Poly.whole(1)
        found = [str(f), f(3), f.degree(), str(f.derivative()), str(in_char(t * f - t, 2)), roots_in(f, 5)]
        self.assertEqual(found, ["1 0 1", 10, 2, "0 2", "0 0 0 1", [2, 3]])
        self.assertEqual(resultant(f, t - Poly.whole(2)), 5)
        f, g = Poly([-1, 0, 1]), Poly([1, 2, 1])
        found = [str(gcd_in(f, g, 0)), str(gcd_in(f, g, 2)), [str(part) for part in divided_in(f, g, 3)]]
        self.assertEqual(found, ["1 1", "1 0 1", ["1", "1 1"]])


if __name__ == "__main__":
    unittest.main()
