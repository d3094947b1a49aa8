"""Polynomials in one unknown number with whole coefficients, read in every field."""

from everyfield.errors import BadNumber, BadText, NoInverse
from everyfield.matrices import Matrix
from everyfield.whole import checked, checked_prime, common_of, padded, reciprocal, remainder
from everyfield.words import is_integer


def _product_item(first, second, k):
    """The coefficient with the index k of a product."""
    return sum([first[i] * second[k - i] for i in range(len(first)) if 0 <= k - i < len(second)])


class Poly:
    """A polynomial in the unknown t, which never changes.

    coefficients are those of 1, t, t * t and so on, without zeros at the end.
    """

    def __init__(self, coefficients):
        size = len(coefficients)
        while size > 0 and coefficients[size - 1] == 0:
            size -= 1
        self.coefficients = tuple(coefficients[:size])

    @classmethod
    def unknown(cls):
        """The polynomial t."""
        return cls([0, 1])

    @classmethod
    def whole(cls, n):
        """The polynomial that is the integer n."""
        return cls([n])

    @classmethod
    def read(cls, text):
        """The polynomial with a text like that of str."""
        words = text.split(" ")
        for at, word in enumerate(words):
            if not is_integer(word):
                raise BadText(at)
        if len(words) > 1 and words[-1] == "0":
            raise BadText(len(words) - 1)
        return cls([int(word) for word in words])

    def __add__(self, other):
        size = max(len(self.coefficients), len(other.coefficients))
        mine, others = padded(self.coefficients, size), padded(other.coefficients, size)
        return Poly([m + n for m, n in zip(mine, others)])

    def __sub__(self, other):
        return self + -other

    def __neg__(self):
        return Poly([-n for n in self.coefficients])

    def __mul__(self, other):
        size = self.degree() + other.degree() + 1
        return Poly([_product_item(self.coefficients, other.coefficients, k) for k in range(size)])

    def __eq__(self, other):
        return isinstance(other, Poly) and self.coefficients == other.coefficients

    def __call__(self, x):
        value = 0
        for n in reversed(self.coefficients):
            value = value * x + n
        return value

    def __str__(self):
        if not self.coefficients:
            return "0"
        return " ".join([str(n) for n in self.coefficients])

    def degree(self):
        """The greatest exponent of t; -1 for the polynomial 0."""
        return len(self.coefficients) - 1

    def content(self):
        """The greatest common divisor of the coefficients; 0 for the polynomial 0."""
        return common_of(self.coefficients)

    def primitive(self):
        """The polynomial whose product with the content is this one; 0 for the polynomial 0."""
        content = self.content()
        return Poly([n // content for n in self.coefficients])

    def derivative(self):
        """The derivative."""
        return Poly([k * n for k, n in enumerate(self.coefficients)][1:])


def _reduced(poly, p):
    """What in_char returns, for p that is checked already."""
    return Poly([remainder(n, p) for n in poly.coefficients])


def in_char(poly, p):
    """The polynomial in the characteristic p."""
    return _reduced(poly, checked(p))


def _term(n, exponent):
    """The polynomial with the coefficient n at this exponent of t alone."""
    return Poly([0] * exponent + [n])


def _standard(poly, p):
    """The one among the multiples of a polynomial in the characteristic p that gcd_in chooses."""
    found = _reduced(poly, p)
    if not found.coefficients:
        return found
    last = found.coefficients[-1]
    if p != 0:
        return _reduced(found * Poly.whole(reciprocal(last, p)), p)
    if last < 0:
        return -found.primitive()
    return found.primitive()


def parted(first, second, p):
    """A tuple (by, quotient, rest) for a second polynomial that is not 0 in the characteristic p.

    There by * first is quotient * second + rest, the integer by is not 0, and the degree of rest is the lesser one.
    """
    divisor, rest = _reduced(second, p), _reduced(first, p)
    last = divisor.coefficients[-1]
    by, quotient = 1, Poly([])
    while rest.degree() >= divisor.degree():
        step = _term(rest.coefficients[-1], rest.degree() - divisor.degree())
        by = remainder(by * last, p)
        # Multiplied instead of divided, as fractions are no whole numbers in the characteristic 0.
        quotient = _reduced(quotient * Poly.whole(last) + step, p)
        rest = _reduced(rest * Poly.whole(last) - step * divisor, p)
    return by, quotient, rest


def quotient_in(first, second, p):
    """Of the polynomials whose products with the second one are multiples of the first one, the one as of gcd_in."""
    return _standard(parted(first, second, p)[1], p)


def shared_in(first, second, p):
    """What gcd_in returns, for p that is checked already."""
    found, rest = _standard(first, p), _standard(second, p)
    while rest.coefficients:
        found, rest = rest, _standard(parted(found, rest, p)[2], p)
    return found


def gcd_in(first, second, p):
    """The greatest common divisor in the characteristic p."""
    return shared_in(first, second, checked(p))


def divided_in(first, second, p):
    """The tuple (quotient, rest) of a division in the characteristic p, which is a prime."""
    checked_prime(p)
    if not _reduced(second, p).coefficients:
        raise NoInverse()
    by, quotient, rest = parted(first, second, p)
    back = Poly.whole(reciprocal(by, p))
    return _reduced(quotient * back, p), _reduced(rest * back, p)


def roots_in(poly, p):
    """The ascending list of the integers from 0 to p - 1 at which the polynomial is 0 modulo the prime p."""
    found = _reduced(poly, checked_prime(p))
    return [x for x in range(p) if found(x) % p == 0]


def moving_rows(poly, many):
    """Many rows with the coefficients from the last one on, each row a place further to the right."""
    backwards = list(poly.coefficients[::-1])
    return [[0] * k + backwards + [0] * (many - 1 - k) for k in range(many)]


def resultant(first, second):
    """The resultant of two polynomials other than 0."""
    if not first.coefficients or not second.coefficients:
        raise BadNumber(0)
    rows = moving_rows(first, second.degree()) + moving_rows(second, first.degree())
    # Two constants make a matrix without rows.
    if not rows:
        return 1
    return Matrix(rows).determinant()
