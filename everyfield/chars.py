"""Sets of characteristics: finitely many primes, or 0 and all primes but finitely many."""

from everyfield.errors import BadCharacteristic, BadText
from everyfield.whole import apart, is_prime, prime_divisors
from everyfield.words import is_number

# As many as the greatest number has whose prime divisors the program needs.
_MOST_DIGITS = 10


def _heading(words):
    """How many words stand before the primes in the text of a set."""
    if words[0] == "primes":
        return 1
    if words[0] != "all":
        raise BadText(0)
    if words[1:2] != ["but"]:
        raise BadText(1)
    return 2


class Chars:
    """A set of characteristics, which never changes.

    If endless is False, primes are its members; if endless is True, it has 0
    and all primes, and primes are those that are missing.
    """

    def __init__(self, endless, primes):
        for p in primes:
            if not is_prime(p):
                raise BadCharacteristic(p)
        self.endless = endless
        self.primes = tuple(sorted(set(primes)))

    @classmethod
    def every(cls):
        """The set of all characteristics."""
        return cls(True, ())

    @classmethod
    def none(cls):
        """The empty set."""
        return cls(False, ())

    @classmethod
    def only(cls, *ps):
        """The set of these primes."""
        return cls(False, ps)

    @classmethod
    def but(cls, *ps):
        """The set of 0 and all other primes."""
        return cls(True, ps)

    @classmethod
    def zero_of(cls, n):
        """The set of the characteristics in which the integer n is 0."""
        if n == 0:
            return cls.every()
        return cls(False, prime_divisors(n))

    @classmethod
    def unit_of(cls, n):
        """The set of the characteristics in which the integer n is not 0."""
        return ~cls.zero_of(n)

    @classmethod
    def read(cls, text):
        """The set with a text like that of str, the primes in any order and repeatedly."""
        words = text.split(" ")
        start = _heading(words)
        for at in range(start, len(words)):
            if not is_number(words[at], _MOST_DIGITS):
                raise BadText(at)
        return cls(words[0] == "all", [int(word) for word in words[start:]])

    def __contains__(self, p):
        if self.endless:
            return p not in self.primes
        return p in self.primes

    def __and__(self, other):
        if not self.endless:
            return Chars(False, [p for p in self.primes if p in other])
        if not other.endless:
            return Chars(False, [p for p in other.primes if p in self])
        return Chars(True, self.primes + other.primes)

    def __or__(self, other):
        if self.endless:
            return Chars(True, [p for p in self.primes if p not in other])
        if other.endless:
            return Chars(True, [p for p in other.primes if p not in self])
        return Chars(False, self.primes + other.primes)

    def __sub__(self, other):
        return self & ~other

    def __invert__(self):
        return Chars(not self.endless, self.primes)

    def __eq__(self, other):
        return isinstance(other, Chars) and self.endless == other.endless and self.primes == other.primes

    def __bool__(self):
        return bool(self.endless or self.primes)

    def __str__(self):
        words = [str(p) for p in self.primes]
        if self.endless:
            return " ".join(["all", "but", *words])
        return " ".join(["primes", *words])

    def least(self, *, most=1000):
        """The least prime of the set up to most, or None."""
        for p in self.upto(most):
            return p
        return None

    def upto(self, most):
        """The primes of the set up to most, in ascending order."""
        # The few members need not be looked for among all numbers up to most.
        if not self.endless:
            for p in self.primes:
                if p <= most:
                    yield p
            return
        for p in range(2, most + 1):
            if is_prime(p) and p in self:
                yield p


def where_units(numbers):
    """The set of the characteristics in which none of the integers in a list is 0."""
    if 0 in numbers:
        return Chars.none()
    primes = []
    for n in numbers:
        # Without the primes that are known already, the others are easier to find.
        for p in primes:
            n = apart(n, p)
        primes = primes + prime_divisors(n)
    return Chars(True, primes)
