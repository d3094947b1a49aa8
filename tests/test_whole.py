"""Tests of points 1.2 to 1.5, of 0.7, and of the example of everyfield/whole.py."""

import unittest

from everyfield.errors import BadCharacteristic, BadNumber
from everyfield.whole import (
    apart, checked, checked_prime, combination, common, common_of, is_prime, is_zero, padded, prime_divisors, reciprocal,
    remainder, sum_of_products,
)

LIMIT = 10000000000
BELOW_LIMIT = [9999999967, 9999999943, 9999999929]
HUGE = 10 ** 6000
NO_CHARACTERISTICS = [1, 4, 6, 9, 25, 91, 99991 * 99991, LIMIT, -1, -2, -3, -7, -LIMIT, -9999999967, -HUGE]


def plain_primes(most):
    """The primes up to most, found by crossing out."""
    crossed = [False] * (most + 1)
    found = []
    for p in range(2, most + 1):
        if not crossed[p]:
            found.append(p)
            for n in range(p * p, most + 1, p):
                crossed[n] = True
    return found


def plain_common(a, b):
    """The greatest common divisor, found by trying all integers."""
    divisors = [d for d in range(1, max(abs(a), abs(b)) + 1) if a % d == 0 and b % d == 0]
    return max(divisors, default=0)


class TestCommon(unittest.TestCase):
    def test_small_numbers(self):
        for a in range(-20, 21):
            for b in range(-20, 21):
                self.assertEqual(common(a, b), plain_common(a, b), (a, b))

    def test_zero(self):
        self.assertEqual([common(0, 0), common(0, -7), common(-7, 0)], [0, 7, 7])

    def test_negative(self):
        self.assertEqual([common(-12, 18), common(12, -18), common(-12, -18)], [6, 6, 6])

    def test_many_digits(self):
        a, b = 2 ** 5000 * 3 ** 70, 3 ** 90 * 5 ** 4000
        self.assertEqual(common(a, b), 3 ** 70)
        self.assertEqual(common(-a * HUGE, b * HUGE), common(a, b) * HUGE)


class TestCombination(unittest.TestCase):
    def check(self, a, b):
        found = combination(a, b)
        self.assertIs(type(found), tuple)
        self.assertEqual([type(part) for part in found], [int, int, int])
        d, u, v = found
        self.assertEqual(d, common(a, b))
        self.assertEqual(u * a + v * b, d)

    def test_small_numbers(self):
        for a in range(-20, 21):
            for b in range(-20, 21):
                self.check(a, b)

    def test_zero(self):
        self.assertEqual(combination(0, 0)[0], 0)
        for n in [1, -1, 12, -12, HUGE, -HUGE]:
            self.check(0, n)
            self.check(n, 0)

    def test_many_digits(self):
        a, b = 2 ** 500 * 3 ** 7000, 3 ** 9 * 5 ** 4000
        for first, second in [(a, b), (-a, b), (a, -b), (-a, -b), (b, a), (a, 1), (1, -a)]:
            self.check(first, second)


class TestPrimes(unittest.TestCase):
    def test_small_numbers(self):
        self.assertEqual([n for n in range(-50, 20001) if is_prime(n)], plain_primes(20000))

    def test_the_answers_are_truth_values(self):
        for n in [-1, 0, 1, 2, 3, 4, 9, 91, 97]:
            self.assertIs(type(is_prime(n)), bool)

    def test_no_primes(self):
        for n in [0, 1, -1, -2, -3, -97, -LIMIT, -HUGE]:
            self.assertIs(is_prime(n), False)

    def test_squares_of_primes(self):
        for p in plain_primes(1000) + [99971, 99989, 99991]:
            self.assertIs(is_prime(p * p), False)

    def test_numbers_near_the_limit(self):
        for p in BELOW_LIMIT + [10000000019]:
            self.assertIs(is_prime(p), True)
        for n in [9999999966, 9999999968, 9999999969, LIMIT - 1, LIMIT, LIMIT + 1, 99989 * 99991, 99971 * 99991]:
            self.assertIs(is_prime(n), False)
        # No prime stands between these two.
        self.assertEqual([n for n in range(9999999943, 9999999968) if is_prime(n)], [9999999943, 9999999967])


class TestPrimeDivisors(unittest.TestCase):
    def test_small_numbers(self):
        primes = plain_primes(500)
        for n in range(1, 501):
            divisors = [p for p in primes if n % p == 0]
            self.assertEqual(prime_divisors(n), divisors)
            self.assertEqual(prime_divisors(-n), divisors)

    def test_units(self):
        self.assertEqual([prime_divisors(1), prime_divisors(-1)], [[], []])

    def test_numbers_near_the_limit(self):
        self.assertEqual(prime_divisors(LIMIT), [2, 5])
        self.assertEqual(prime_divisors(-9999999967), [9999999967])
        self.assertEqual(prime_divisors(2 * 4999999937), [2, 4999999937])
        self.assertEqual(prime_divisors(99991 * 99989), [99989, 99991])
        self.assertEqual(prime_divisors(-99991 * 99991), [99991])
        self.assertEqual(prime_divisors(6469693230), [2, 3, 5, 7, 11, 13, 17, 19, 23, 29])
        self.assertEqual(prime_divisors(2 ** 33), [2])

    def test_zero(self):
        with self.assertRaises(BadNumber) as caught:
            prime_divisors(0)
        self.assertEqual(caught.exception.n, 0)

    def test_the_list_is_a_new_one(self):
        prime_divisors(12).append(5)
        self.assertEqual(prime_divisors(12), [2, 3])


class TestChecked(unittest.TestCase):
    def test_characteristics(self):
        for p in [0, 2, 3, 5, 97, 65537] + BELOW_LIMIT:
            self.assertEqual(checked(p), p)

    def test_no_characteristics(self):
        for p in NO_CHARACTERISTICS:
            with self.assertRaises(BadCharacteristic) as caught:
                checked(p)
            self.assertEqual(caught.exception.p, p)


    def test_primes_alone(self):
        for p in [2, 3, 5, 97, 65537] + BELOW_LIMIT:
            self.assertEqual(checked_prime(p), p)
        for p in [0] + NO_CHARACTERISTICS:
            with self.assertRaises(BadCharacteristic) as caught:
                checked_prime(p)
            self.assertEqual(caught.exception.p, p)


class TestHelpers(unittest.TestCase):
    def test_remainder(self):
        self.assertEqual([remainder(n, 0) for n in (-7, 0, HUGE)], [-7, 0, HUGE])
        self.assertEqual([remainder(n, 5) for n in (-7, 0, 5, 12, HUGE + 3)], [3, 0, 0, 2, 3])

    def test_reciprocal(self):
        for p in plain_primes(50) + BELOW_LIMIT:
            for n in [1, 2, 3, 12, -5, HUGE + 1, p - 1, p + 1]:
                if n % p != 0:
                    found = reciprocal(n, p)
                    self.assertTrue(0 < found < p)
                    self.assertEqual(found * n % p, 1)

    def test_common_of(self):
        cases = [([], 0), ((0, 0), 0), ([0, -6], 6), ((12, -18, 8), 2), ([5], 5), ([HUGE * 4, HUGE * 6], HUGE * 2)]
        for numbers, expected in cases:
            self.assertEqual(common_of(numbers), expected)

    def test_apart(self):
        cases = [
            (12, 2, 3), (12, 0, 1), (-12, 1, 12), (-12, 6, 1), (2 ** 50 * 3 * 7, 14, 3), (5, 25, 1), (1, 0, 1), (35, 12, 35),
        ]
        for n, other, expected in cases:
            self.assertEqual(apart(n, other), expected)
            self.assertEqual(apart(n, -other), expected)

    def test_padded_and_sum_of_products(self):
        self.assertEqual([padded([1, 2], 4), padded((1,), 1), padded([], 2)], [[1, 2, 0, 0], [1], [0, 0]])
        self.assertEqual([sum_of_products([1, 2], (3, -4)), sum_of_products([], [])], [-5, 0])


class TestIsZero(unittest.TestCase):
    def test_small_numbers(self):
        for n in range(-60, 61):
            self.assertIs(is_zero(n, 0), n == 0)
            for p in [2, 3, 5, 7, 59, 61]:
                self.assertIs(is_zero(n, p), n in [p * k for k in range(-60, 61)])

    def test_many_digits(self):
        self.assertIs(is_zero(HUGE, 0), False)
        self.assertIs(is_zero(HUGE, 2), True)
        self.assertIs(is_zero(-HUGE, 5), True)
        self.assertIs(is_zero(HUGE, 3), False)
        self.assertIs(is_zero(HUGE * 9999999967, 9999999967), True)
        self.assertIs(is_zero(HUGE * 9999999967 - 1, 9999999967), False)

    def test_no_characteristics(self):
        for p in NO_CHARACTERISTICS:
            for n in [0, 12, HUGE]:
                with self.assertRaises(BadCharacteristic) as caught:
                    is_zero(n, p)
                self.assertEqual(caught.exception.p, p)


class TestExample(unittest.TestCase):
    def test_of_the_interface(self):
        found = [common(12, -18), is_prime(91), prime_divisors(-360), is_zero(12, 3), is_zero(12, 0), is_zero(0, 0)]
        self.assertEqual(found, [6, False, [2, 3, 5], True, False, True])


if __name__ == "__main__":
    unittest.main()
