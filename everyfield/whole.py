"""Whole numbers: common divisors, primes, and when a number is 0 in a field."""

from math import gcd, isqrt

from everyfield.errors import BadCharacteristic, BadNumber


def common(a, b):
    """The greatest integer that divides both; 0 if both are 0."""
    return gcd(a, b)


def combination(a, b):
    """A tuple (d, u, v) with u * a + v * b equal to d, where d is common(a, b)."""
    # d and rest always are u and next_u times a plus a multiple of b;
    # so v need not be carried along.
    d, rest = a, b
    u, next_u = 1, 0
    while rest != 0:
        times = d // rest
        d, rest = rest, d - times * rest
        u, next_u = next_u, u - times * next_u
    if d < 0:
        d, u = -d, -u
    if b == 0:
        return d, u, 0
    return d, u, (d - u * a) // b


def _least_divisor(n):
    """The least integer above 1 that divides n, which is above 1."""
    if n % 2 == 0:
        return 2
    for d in range(3, isqrt(n) + 1, 2):
        if n % d == 0:
            return d
    return n


def is_prime(n):
    """True if the integer n is a prime."""
    return n > 1 and _least_divisor(n) == n


def prime_divisors(n):
    """The ascending list of the primes that divide the integer n, which is not 0."""
    if n == 0:
        raise BadNumber(n)
    found = []
    rest = abs(n)
    while rest > 1:
        p = _least_divisor(rest)
        found.append(p)
        while rest % p == 0:
            rest = rest // p
    return found


def checked_prime(p):
    """The integer p itself, if it is a prime."""
    if not is_prime(p):
        raise BadCharacteristic(p)
    return p


def checked(p):
    """The integer p itself, if it is 0 or a prime."""
    if p == 0:
        return p
    return checked_prime(p)


def is_zero(n, p):
    """True if the integer n is 0 in the characteristic p."""
    return remainder(n, checked(p)) == 0


def remainder(n, p):
    """The integer that stands for n in the characteristic p: from 0 to p - 1, or n if p is 0."""
    # It is asked for so often that callers check p once for many numbers.
    if p == 0:
        return n
    return n % p


def reciprocal(n, p):
    """The integer from 1 to p - 1 whose product with n is 1 modulo the prime p, which does not divide n."""
    return combination(n, p)[1] % p


def common_of(numbers):
    """The greatest integer that divides all the numbers; 0 if all are 0 or there are none."""
    found = 0
    for n in numbers:
        found = common(found, n)
    return found


def apart(n, other):
    """The greatest divisor of n, which is not 0, that has no prime divisor in common with the other one."""
    shared = common(n, other)
    while shared > 1:
        n = n // shared
        shared = common(n, other)
    return abs(n)


def padded(numbers, size):
    """The numbers as a list, with zeros behind them as far as the size."""
    return list(numbers) + [0] * (size - len(numbers))


def sum_of_products(first, second):
    """The sum of the products of the items of two equally long lists."""
    return sum([m * n for m, n in zip(first, second)])
