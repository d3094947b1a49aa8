"""What the tests compare the program with: slow and plain, straight from the words of the document."""

from itertools import combinations, permutations, product as choices

from everyfield.chars import Chars
from everyfield.errors import FieldError

LIMIT_PRIME = 9999999967
NO_CHARACTERISTICS = [1, 4, 6, 9, 91, 10000000000, -1, -2, -3, -LIMIT_PRIME]


def raised(function, *args, **kwargs):
    """The name and the attributes of the error that a call raises, or None."""
    try:
        function(*args, **kwargs)
    except FieldError as error:
        return type(error).__name__, vars(error)
    return None


def is_zero(n, p):
    return n == 0 if p == 0 else n % p == 0


def chars_where(test, primes):
    """The set where test is True, if outside of 0 and the primes it is as in 0."""
    if test(0):
        return Chars(True, [p for p in primes if not test(p)])
    return Chars(False, [p for p in primes if test(p)])


def determinant(rows):
    """The determinant, along the first row."""
    if not rows:
        return 1
    total, sign = 0, 1
    for k, n in enumerate(rows[0]):
        if n != 0:
            total += sign * n * determinant([row[:k] + row[k + 1:] for row in rows[1:]])
        sign = -sign
    return total


def determinant_by_orders(rows):
    """The determinant, as the sum over all orders of the columns."""
    total = 0
    for order in permutations(range(len(rows))):
        term = 1
        for i, k in enumerate(order):
            term *= rows[i][k]
        crossings = sum(1 for i, k in combinations(order, 2) if i > k)
        total += term if crossings % 2 == 0 else -term
    return total


def minors(rows, size):
    return [
        determinant([tuple(rows[i][k] for k in columns) for i in chosen])
        for chosen in combinations(range(len(rows)), size)
        for columns in combinations(range(len(rows[0])), size)
    ]


def rank(rows, p):
    """The greatest size of a square part whose determinant is not 0 in the characteristic p."""
    for size in range(min(len(rows), len(rows[0])), 0, -1):
        if any(not is_zero(n, p) for n in minors(rows, size)):
            return size
    return 0


def divisors_of(n):
    """The primes that divide an integer other than 0."""
    n, found, p = abs(n), [], 2
    while n > 1:
        if n % p == 0:
            found.append(p)
            while n % p == 0:
                n //= p
        p += 1
    return found


def primes_of_minors(rows):
    """All primes that divide some minor other than 0; elsewhere the rank of each part is that in 0."""
    found = set()
    for size in range(1, min(len(rows), len(rows[0])) + 1):
        for n in set(minors(rows, size)) - {0}:
            found.update(divisors_of(n))
    return sorted(found)


def product(first, second):
    return [[sum(row[k] * second[k][at] for k in range(len(second))) for at in range(len(second[0]))] for row in first]


def times(rows, vector):
    return [sum(m * n for m, n in zip(row, vector)) for row in rows]


class PowerField:
    """The field with p^k numbers, which are the integers that write remainders of polynomials with the base p."""

    def __init__(self, p, k):
        self.p, self.k, self.size = p, k, p ** k
        self.known = [[number // p ** i % p for i in range(k)] for number in range(p ** k)]
        self.modulus = next(m for m in choices(range(p), repeat=k) if m[0] and self.has_order(m))
        powers, number = [], 1
        for _ in range(self.size - 1):
            powers.append(number)
            number = self.shifted(number)
        self.powers, self.logs = powers, {number: at for at, number in enumerate(powers)}

    def digits(self, number):
        return self.known[number]

    def shifted(self, number):
        """The number times t."""
        digits = self.digits(number)
        shifted = [0] + digits[:-1]
        return sum((n - digits[-1] * m) % self.p * self.p ** i for i, (n, m) in enumerate(zip(shifted, self.modulus)))

    def has_order(self, modulus):
        """True if all numbers but 0 are powers of t, so that these remainders form a field."""
        self.modulus = modulus
        if self.size == 2:
            return True
        number, order = self.shifted(1), 1
        while number != 1 and order < self.size:
            number, order = self.shifted(number), order + 1
        return order == self.size - 1

    def plus(self, a, b):
        if a == 0 or b == 0:
            return a or b
        return sum((m + n) % self.p * self.p ** i for i, (m, n) in enumerate(zip(self.digits(a), self.digits(b))))

    def times(self, a, b):
        if a == 0 or b == 0:
            return 0
        return self.powers[(self.logs[a] + self.logs[b]) % (self.size - 1)]

    def value(self, poly, x):
        found = 0
        for n in reversed(poly.coefficients):
            found = self.plus(self.times(found, x), n % self.p)
        return found

    def fitting(self, zeros, others):
        return [x for x in range(self.size)
                if all(self.value(f, x) == 0 for f in zeros) and all(self.value(f, x) != 0 for f in others)]
