"""Conditions for one unknown number: where it is, how many such numbers there are, and what shows this.

A condition consists of two lists of polynomials: the zeros have the value 0 at
a number that fits, and the others have not.
"""

from everyfield.chars import Chars
from everyfield.diagonal import divisors
from everyfield.matrices import Matrix
from everyfield.poly import Poly, gcd_in, in_char, moving_rows, parted, quotient_in, resultant, shared_in
from everyfield.whole import checked, checked_prime, common_of, prime_divisors, remainder


def _is_zero_in(poly, p):
    """True if the polynomial is 0 in the characteristic p."""
    return remainder(poly.content(), p) == 0


def _product_in(polys, p):
    """The product of the polynomials in the characteristic p."""
    found = Poly.whole(1)
    for poly in polys:
        found = in_char(found * poly, p)
    return found


def _divisor_of_all(polys, p):
    """The greatest common divisor of the polynomials in the characteristic p; 0 if there are none."""
    found = Poly([])
    for poly in polys:
        found = shared_in(found, poly, p)
    return found


def _without(poly, other, p):
    """What is left of a polynomial, not 0 in the characteristic p, without the factors that the other one has too."""
    shared = shared_in(poly, other, p)
    while shared.degree() > 0:
        poly = quotient_in(poly, shared, p)
        shared = shared_in(poly, other, p)
    return poly


def _fitting_part(zeros, others, p):
    """The polynomial that is 0 at the numbers that fit and nowhere else, in all fields with the characteristic p.

    It is the polynomial 0 if all numbers fit but the finitely many at which one of the others is 0.
    """
    found = _divisor_of_all(zeros, p)
    if not found.coefficients:
        return Poly([1] if any([_is_zero_in(other, p) for other in others]) else [])
    for other in others:
        found = _without(found, other, p)
    return found


def _how_many_roots(poly, p):
    """At how many numbers the polynomial, as gcd_in returns it, is 0 in a field closed under roots."""
    found = 0
    while poly.degree() > 0:
        slope = poly.derivative()
        if _is_zero_in(slope, p):
            # Only powers of t^p occur, and each number is the p-th power of just one.
            poly = Poly(poly.coefficients[::p])
        else:
            shared = shared_in(poly, slope, p)
            simple = quotient_in(poly, shared, p)
            found += simple.degree()
            poly = _without(shared, simple, p)
    return found


def _how_many(zeros, others, p):
    """How many numbers of a field closed under roots fit in the characteristic p; None if there is no end of them."""
    part = _fitting_part(zeros, others, p)
    if not part.coefficients:
        return None
    return _how_many_roots(part, p)


def _last_divisor(polys):
    """An integer for polynomials without a common divisor in 0: they have none in p either, if it is not 0 there."""
    # Of these products of the polynomials and powers of t, all polynomials of lower degrees are sums.
    size = max(1, 2 * max([poly.degree() for poly in polys]))
    rows = []
    for poly in polys:
        rows = rows + moving_rows(poly, size - poly.degree())
    return divisors(Matrix(rows))[-1]


def _suspects(zeros, others):
    """Integers other than 0: where none of them is 0, as many numbers fit as in the characteristic 0."""
    divisor = _divisor_of_all(zeros, 0)
    if not divisor.coefficients:
        return [other.content() for other in others if other.coefficients]
    # Divided by their common divisor, the zeros must not get another one.
    left = [quotient_in(poly, divisor, 0) * Poly.whole(poly.content()) for poly in zeros if poly.coefficients]
    found = [_last_divisor(left)]
    part = _fitting_part(zeros, others, 0)
    if part.degree() > 0:
        # The roots must stay apart from one another and from those of the others. The resultant
        # with the derivative is also 0 where the last coefficient is, and so a root less is there.
        simple = quotient_in(part, shared_in(part, part.derivative(), 0), 0)
        found = found + [resultant(simple, poly) for poly in [simple.derivative(), *others]]
    return found


def how_many_there(zeros, others):
    """A dictionary: for each number of numbers that fit in closed fields, the set of the characteristics with it."""
    usual = _how_many(zeros, others, 0)
    found = {usual: Chars.every()}
    primes = [p for n in _suspects(zeros, others) for p in prime_divisors(n)]
    for p in sorted(set(primes)):
        here = _how_many(zeros, others, p)
        if here != usual:
            found[usual] = found[usual] - Chars.only(p)
            found[here] = found.get(here, Chars.none()) | Chars.only(p)
    return found


def somewhere(zeros, others):
    """The set of the characteristics in which some field has a number that fits."""
    return ~how_many_there(zeros, others).get(0, Chars.none())


def fitting(zeros, others, *, p):
    """The ascending list of the remainders modulo the prime p that fit."""
    checked_prime(p)
    return [x for x in range(p) if _fits(x, zeros, others, p)]


def _fits(x, zeros, others, p):
    """True if the remainder x modulo the prime p fits."""
    return all([poly(x) % p == 0 for poly in zeros]) and all([poly(x) % p != 0 for poly in others])


def least_power(zeros, others, *, p):
    """The least k for which a number of the field with p^k numbers fits, or None."""
    part = _fitting_part(zeros, others, checked_prime(p))
    if not part.coefficients:
        return _least_power_beside(_product_in(others, p), p)
    if part.degree() == 0:
        return None
    return _least_power_with_root(part, p)


def _numbers_less(power):
    """The polynomial power - t, which is 0 at all numbers of a field if the power is t^n, for its n numbers."""
    return power - Poly.unknown()


def _least_power_beside(poly, p):
    """The least k for which the polynomial, not 0 in p, is not 0 at some number of the field with p^k numbers."""
    k, size = 1, p
    while size <= poly.degree() and shared_in(poly, _numbers_less(Poly([0] * size + [1])), p).degree() == size:
        k, size = k + 1, size * p
    return k


def _least_power_with_root(poly, p):
    """The least k for which the polynomial is 0 at some number of the field with p^k numbers; its degree is above 0."""
    k, power = 1, _raised(Poly.unknown(), poly, p)
    while shared_in(poly, _numbers_less(power), p).degree() == 0:
        k, power = k + 1, _raised(power, poly, p)
    return k


def _raised(poly, by, p):
    """The rest of the product of p copies of the polynomial, divided by another one in the characteristic p."""
    found, left = Poly.whole(1), p
    while left > 0:
        if left % 2 == 1:
            found = _rest(found * poly, by, p)
        poly = _rest(poly * poly, by, p)
        left = left // 2
    return found


def _rest(first, second, p):
    """The rest of a division by a polynomial as gcd_in returns it, whose last coefficient is 1."""
    return parted(first, second, p)[2]


def same_fitting(first, second):
    """The set of the characteristics in which the same numbers fit two conditions in every field."""
    return ~(_where_more(first, second) | _where_more(second, first))


def _where_more(first, second):
    """The set of the characteristics in which some number fits the first condition, but not the second one."""
    zeros, others = first
    found = Chars.none()
    for poly in second[0]:
        found = found | somewhere(zeros, [*others, poly])
    for poly in second[1]:
        found = found | somewhere([*zeros, poly], others)
    return found


def witness(zeros, others, *, p):
    """A polynomial that shows that some number of some field fits in the characteristic p, or None."""
    part = _fitting_part(zeros, others, checked(p))
    if not part.coefficients:
        # A number at which one of the others is 0 makes this polynomial 1.
        return in_char(Poly.unknown() * _product_in(others, p) + Poly.whole(1), p)
    if part.degree() == 0:
        return None
    return part


def is_witness(zeros, others, paper, *, p):
    """True if the polynomial shows that some number of some field fits in the characteristic p."""
    size = in_char(paper, p).degree()
    if size < 1 or any([gcd_in(paper, poly, p).degree() != size for poly in zeros]):
        return False
    return all([gcd_in(paper, poly, p).degree() == 0 for poly in others])


def _smaller(polys, p):
    """The polynomials in the characteristic p, where it is 0 without their common divisor among the integers."""
    if p != 0:
        return [in_char(poly, p) for poly in polys]
    content = max(1, common_of([poly.content() for poly in polys]))
    return [Poly([n // content for n in poly.coefficients]) for poly in polys]


def _ended(first, second, p):
    """The last one of two rows of polynomials that are divided by turns, as their first ones say."""
    while second[0].coefficients:
        by, quotient, _ = parted(first[0], second[0], p)
        rest = [Poly.whole(by) * f - quotient * g for f, g in zip(first, second)]
        first, second = second, _smaller(rest, p)
    return first


def _divisor_with_factors(zeros, p):
    """A greatest common divisor in the characteristic p, and behind it the factors that make it of the zeros."""
    found = [Poly([])] * (len(zeros) + 1)
    for at, poly in enumerate(zeros):
        factors = [Poly([1] if k == at else []) for k in range(len(zeros))]
        found = _ended(found, _smaller([poly, *factors], p), p)
    return found


def barring(zeros, others, *, p):
    """A tuple (c, n, factors) that shows that no number fits in the characteristic p, or None."""
    if _fitting_part(zeros, others, checked(p)).degree() != 0:
        return None
    found, *factors = _divisor_with_factors(zeros, p)
    # Nothing but 0 can be made of zeros that are all 0; then one of the others is 0, too.
    if not found.coefficients:
        return 1, 1, factors
    product, power, n = _product_in(others, p), Poly.whole(1), 0
    by, quotient, rest = parted(power, found, p)
    while rest.coefficients:
        power, n = in_char(power * product, p), n + 1
        by, quotient, rest = parted(power, found, p)
    sides = _smaller([Poly.whole(by)] + [factor * quotient for factor in factors], p)
    return sides[0].coefficients[0], n, sides[1:]


def is_barring(zeros, others, paper, *, p):
    """True if the tuple (c, n, factors) shows that no number fits in the characteristic p."""
    c, n, factors = paper
    if remainder(c, checked(p)) == 0 or n < 0 or len(factors) != len(zeros):
        return False
    left = Poly.whole(c) * _product_in(list(others) * n, p)
    for poly, factor in zip(zeros, factors):
        left = left - poly * factor
    return _is_zero_in(left, p)
