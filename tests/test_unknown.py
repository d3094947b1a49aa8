"""Tests of points 8.1 to 8.8, of 0.2 and 0.4 to 0.7 for conditions, and of the examples of everyfield/unknown.py."""

import random
import unittest
from itertools import product

from plain import NO_CHARACTERISTICS, PowerField, divisors_of, is_zero, raised

from everyfield.chars import Chars
from everyfield.poly import Poly, in_char, resultant
from everyfield.unknown import (
    barring, fitting, how_many_there, is_barring, is_witness, least_power, same_fitting, somewhere, witness,
)

ZERO, ONE, T = Poly([]), Poly([1]), Poly.unknown()
SMALL = [0, 2, 3, 5, 7, 11]
NO_PRIMES = [0, *NO_CHARACTERISTICS]


# In these, all polynomials of degrees up to 3 with coefficients of the remainders have all their roots.
LARGE = {p: PowerField(p, 6) for p in (2, 3)}
FIELDS = {(p, k): PowerField(p, k) for p, k in [(2, 1), (2, 2), (2, 3), (2, 4), (3, 1), (3, 2), (3, 3), (5, 1), (5, 2)]}


def any_poly(chance, degree=3):
    degree, most = chance.randint(-1, degree), chance.choice([1, 2, 9])
    return Poly([chance.randint(-most, most) for _ in range(degree + 1)])


def any_conditions(seed, count):
    """Conditions of all kinds, many with factors in common."""
    chance = random.Random(seed)
    for _ in range(count):
        zeros = [any_poly(chance) for _ in range(chance.randint(0, 3))]
        others = [any_poly(chance) for _ in range(chance.randint(0, 3))]
        if chance.randint(0, 1):
            by = any_poly(chance, 1) or T
            zeros = [poly if poly.degree() > 2 else poly * by for poly in zeros]
            if chance.randint(0, 2) == 0:
                others = [poly if poly.degree() > 2 else poly * by for poly in others]
        yield zeros, others


def vanishes(poly, p):
    return all(is_zero(n, p) for n in poly.coefficients)


def plain_count(zeros, others, p):
    """How many numbers of a field closed under roots fit, from a field that has all roots of the zeros; p is 2 or 3."""
    if any(vanishes(poly, p) for poly in others):
        return 0
    if all(vanishes(poly, p) for poly in zeros):
        return None
    return len(LARGE[p].fitting(zeros, others))


def texts(found):
    return {n: str(chars) for n, chars in found.items()}


class TestSomewhere(unittest.TestCase):
    def test_values(self):
        f, g = Poly([1, 1, 1]), Poly([-1, 1])
        self.assertEqual(str(somewhere([f, g], [])), "primes 3")
        self.assertEqual(str(somewhere([f], [g])), "all but 3")
        self.assertEqual(str(somewhere([f], [f])), "primes")
        self.assertEqual(str(somewhere([Poly([-2, 1]), Poly([-7, 1])], [])), "primes 5")
        self.assertEqual(str(somewhere([Poly([-2, 0, 1]), Poly([-3, 0, 1])], [])), "primes")
        self.assertEqual(str(somewhere([Poly([-2, 0, 1]), Poly([-2, 0, 0, 1])], [])), "primes 2")
        self.assertEqual(str(somewhere([Poly([1, 6])], [])), "all but 2 3")
        self.assertEqual(str(somewhere([Poly([6])], [])), "primes 2 3")
        self.assertEqual(str(somewhere([Poly([5, 5])], [T])), "all but")
        self.assertEqual(str(somewhere([Poly([5, 5])], [T + ONE])), "primes 5")

    def test_empty_lists_and_constants(self):
        for zeros in ([], [ZERO], [ZERO, ZERO]):
            self.assertEqual(somewhere(zeros, []), Chars.every())
            self.assertEqual(somewhere(zeros, [ONE]), Chars.every())
            self.assertEqual(somewhere(zeros, [T, T * T * T - T]), Chars.every())
            self.assertEqual(somewhere(zeros, [Poly([6]), T]), Chars.but(2, 3))
            self.assertEqual(somewhere(zeros, [T, Poly([0, 6, 3])]), Chars.but(3))
            self.assertEqual(somewhere(zeros, [ZERO]), Chars.none())
        self.assertEqual(somewhere([ONE], []), Chars.none())
        self.assertEqual(somewhere([Poly([-1])], [T]), Chars.none())
        self.assertEqual(somewhere([T], [ZERO, ONE]), Chars.none())
        self.assertEqual(somewhere([T], [Poly([9])]), Chars.but(3))

    def test_in_the_small_characteristics(self):
        for zeros, others in any_conditions(1, 120):
            found = somewhere(zeros, others)
            self.assertIs(type(found), Chars)
            for p in (2, 3):
                self.assertEqual(p in found, plain_count(zeros, others, p) != 0, (zeros, others, p))

    def test_zeros_of_a_point_on_two_lines(self):
        # Two numbers at which polynomials of the degree 1 are 0 are equal where a determinant is 0.
        for a, b, c, d in product(range(-4, 5, 2), range(-3, 4), [1, 3], [-2, 1, 5]):
            found = somewhere([Poly([a, c]), Poly([b, d])], [])
            n = a * d - b * c
            for p in [0, 2, 3, 5, 7, 11, 13, 17, 19, 23]:
                here = any(plain_fits(x, [Poly([a, c]), Poly([b, d])], [], p) for x in range(p)) if p else n == 0
                self.assertEqual(p in found, here)


def plain_fits(x, zeros, others, p):
    return all(poly(x) % p == 0 for poly in zeros) and all(poly(x) % p != 0 for poly in others)


class TestHowManyThere(unittest.TestCase):
    def test_values(self):
        f, g = Poly([1, 1, 1]), Poly([-1, 1])
        self.assertEqual(texts(how_many_there([f], [g])), {2: "all but 3", 0: "primes 3"})
        self.assertEqual(texts(how_many_there([f], [])), {2: "all but 3", 1: "primes 3"})
        self.assertEqual(texts(how_many_there([Poly([2, 3, 1])], [])), {2: "all but"})
        self.assertEqual(texts(how_many_there([Poly([1, 0, 0, 1])], [])), {3: "all but 3", 1: "primes 3"})
        self.assertEqual(texts(how_many_there([Poly([0, 1, 6])], [])), {2: "all but 2 3", 1: "primes 2 3"})
        self.assertEqual(texts(how_many_there([Poly([6, 6, 6])], [])), {2: "all but 2 3", None: "primes 2 3"})
        self.assertEqual(texts(how_many_there([Poly([4]), Poly([0, 6])], [])), {0: "all but 2", None: "primes 2"})
        self.assertEqual(texts(how_many_there([Poly([0, 0, 0, 1])], [])), {1: "all but"})
        # In the characteristic 2, t^2 - 3 is (t - 1)^2, and in 3 it is t^2.
        self.assertEqual(texts(how_many_there([Poly([-3, 0, 1])], [g])), {2: "all but 2 3", 0: "primes 2", 1: "primes 3"})

    def test_infinitely_many_and_none(self):
        self.assertEqual(texts(how_many_there([], [])), {None: "all but"})
        self.assertEqual(texts(how_many_there([ZERO], [T])), {None: "all but"})
        self.assertEqual(texts(how_many_there([], [Poly([6]), T])), {None: "all but 2 3", 0: "primes 2 3"})
        self.assertEqual(texts(how_many_there([], [ZERO, Poly([6])])), {0: "all but"})
        self.assertEqual(texts(how_many_there([T], [ZERO])), {0: "all but"})
        self.assertEqual(texts(how_many_there([ONE], [])), {0: "all but"})
        self.assertEqual(texts(how_many_there([Poly([2])], [Poly([3, 0, 3])])), {0: "all but 2", None: "primes 2"})
        self.assertEqual(texts(how_many_there([Poly([6])], [Poly([3, 0, 3])])), {0: "all but 2", None: "primes 2"})

    def test_in_the_small_characteristics(self):
        for zeros, others in any_conditions(2, 120):
            found = how_many_there(zeros, others)
            for p in (2, 3):
                expected = plain_count(zeros, others, p)
                self.assertEqual([n for n in found if p in found[n]], [expected])

    def test_each_characteristic_stands_once(self):
        for zeros, others in any_conditions(3, 150):
            found = how_many_there(zeros, others)
            self.assertIs(type(found), dict)
            seen = Chars.none()
            for n, chars in found.items():
                self.assertIs(type(chars), Chars)
                self.assertTrue(chars)
                self.assertFalse(seen & chars)
                seen = seen | chars
            self.assertEqual(seen, Chars.every())
            self.assertEqual(somewhere(zeros, others), ~found.get(0, Chars.none()))

    def test_all_but_finitely_many_are_as_in_0(self):
        # The characteristics with another answer are listed, and a large prime is like 0.
        for zeros, others in any_conditions(4, 100):
            for chars in how_many_there(zeros, others).values():
                self.assertEqual(0 in chars, chars.endless)

    def test_primes_that_are_not_small(self):
        # The discriminant of 9 t^3 + 7 t^2 + 5 t + 3, and a resultant.
        f, g = Poly([3, 5, 7, 9]), Poly([1, -8, 2, 5])
        self.assertEqual(texts(how_many_there([f], [])),
                         {3: "all but 2 3 17 37", 1: "primes 2", 2: "primes 3 17 37"})
        # No prime divides both last coefficients.
        found = somewhere([f, g], [])
        self.assertEqual(found, Chars.zero_of(resultant(f, g)))
        self.assertIn(9733, found)

    def test_fields_with_more_roots(self):
        # Where all roots are remainders, they can be counted.
        for zeros, others in any_conditions(5, 120):
            found = how_many_there(zeros, others)
            for p in (5, 7, 11):
                if any(vanishes(poly, p) for poly in others) or all(vanishes(poly, p) for poly in zeros):
                    continue
                count = [n for n in found if p in found[n]][0]
                here = len(fitting(zeros, others, p=p))
                self.assertLessEqual(here, count)
                if all(poly.degree() < 2 for poly in zeros):
                    self.assertEqual(here, count)

    def test_the_dictionary_is_a_new_one(self):
        how_many_there([T], []).clear()
        self.assertEqual(texts(how_many_there([T], [])), {1: "all but"})

    def test_lists_are_not_modified(self):
        zeros, others = [T * T, T], [ONE]
        for call in (how_many_there, somewhere):
            call(zeros, others)
        for call in (witness, barring, least_power, fitting):
            call(zeros, others, p=3)
        same_fitting((zeros, others), (others, zeros))
        self.assertEqual((zeros, others), ([T * T, T], [ONE]))


class TestFitting(unittest.TestCase):
    def test_values(self):
        f, g = Poly([1, 1, 1]), Poly([-2, 1])
        self.assertEqual(fitting([f], [], p=7), [2, 4])
        self.assertEqual(fitting([f], [g], p=7), [4])
        self.assertEqual(fitting([f], [], p=5), [])
        self.assertEqual(fitting([], [], p=5), [0, 1, 2, 3, 4])
        self.assertEqual(fitting([], [T], p=3), [1, 2])
        self.assertEqual(fitting([ZERO], [ONE], p=2), [0, 1])
        self.assertEqual(fitting([Poly([3])], [], p=3), [0, 1, 2])
        self.assertEqual(fitting([], [Poly([3])], p=3), [])
        self.assertEqual(fitting([Poly([0, -1, 0, 1])], [], p=3), [0, 1, 2])
        self.assertEqual(fitting([Poly([-9, 0, 1])], [], p=1999), [3, 1996])

    def test_by_the_values(self):
        for zeros, others in any_conditions(6, 60):
            for p in (2, 3, 5, 7, 31):
                expected = [x for x in range(p) if plain_fits(x, zeros, others, p)]
                self.assertEqual(fitting(zeros, others, p=p), expected)
                self.assertTrue(not expected or p in somewhere(zeros, others))

    def test_no_primes(self):
        for p in NO_PRIMES:
            for zeros in ([], [T], [ZERO]):
                self.assertEqual(raised(fitting, zeros, [], p=p), ("BadCharacteristic", {"p": p}))


class TestLeastPower(unittest.TestCase):
    def test_values(self):
        f, g = Poly([1, 1, 1]), Poly([-1, 1])
        self.assertEqual(least_power([f], [], p=2), 2)
        self.assertEqual(least_power([f], [], p=7), 1)
        self.assertIsNone(least_power([f], [g], p=3))
        self.assertEqual(least_power([f], [g], p=7), 1)
        self.assertEqual(least_power([Poly([1, 1, 0, 1])], [], p=2), 3)
        self.assertEqual(least_power([Poly([-2, 0, 0, 1])], [], p=97), 3)
        self.assertIsNone(least_power([ONE], [], p=2))
        self.assertIsNone(least_power([T], [Poly([3])], p=3))

    def test_where_all_but_finitely_many_fit(self):
        self.assertEqual(least_power([], [], p=2), 1)
        self.assertEqual(least_power([ZERO], [ONE], p=97), 1)
        self.assertEqual(least_power([], [T, T + ONE], p=2), 2)
        self.assertEqual(least_power([], [T * T + T], p=2), 2)
        self.assertEqual(least_power([], [T * T + T], p=3), 1)
        self.assertEqual(least_power([Poly([3])], [Poly([0, -1, 0, 1])], p=3), 2)
        # These three are 0 at all numbers of the field with 4 numbers, but not at all of the field with 8.
        self.assertEqual(least_power([], [T * T + T, Poly([1, 1, 1])], p=2), 3)
        self.assertEqual(least_power([], [T * T + T, Poly([1, 1, 0, 1]), Poly([1, 0, 1, 1])], p=2), 2)
        # The product of these three is t^9 - t in the characteristic 3, so all numbers of the field with 9 are left out.
        cubics = [T * Poly([1, 0, 1]), Poly([-1, 1]) * Poly([2, 1, 1]), Poly([1, 1]) * Poly([2, 2, 1])]
        self.assertEqual(least_power([], cubics, p=3), 3)
        self.assertEqual(least_power([], cubics[1:], p=3), 1)
        self.assertEqual([least_power([], cubics, p=p) for p in (5, 7)], [2, 1])
        self.assertIsNone(least_power([], [ZERO], p=2))
        self.assertIsNone(least_power([], [T, Poly([5, 5])], p=5))

    def test_by_the_power_fields(self):
        for zeros, others in any_conditions(7, 250):
            for p, most in [(2, 4), (3, 3), (5, 2)]:
                powers = [k for k in range(1, most + 1) if FIELDS[p, k].fitting(zeros, others)]
                found = least_power(zeros, others, p=p)
                if powers:
                    self.assertEqual(found, powers[0], (zeros, others, p))
                elif p == 5 and found == 3:
                    self.assertEqual(sum(poly.degree() == 3 for poly in zeros) > 0, True)
                else:
                    self.assertIsNone(found)

    def test_none_if_nothing_fits(self):
        for zeros, others in any_conditions(8, 100):
            found = somewhere(zeros, others)
            for p in (2, 3, 5, 7, 89, 97):
                self.assertEqual(least_power(zeros, others, p=p) is None, p not in found)

    def test_no_primes(self):
        for p in NO_PRIMES:
            for zeros in ([], [T], [ONE]):
                self.assertEqual(raised(least_power, zeros, [], p=p), ("BadCharacteristic", {"p": p}))


class TestSameFitting(unittest.TestCase):
    def test_values(self):
        f, g = Poly([1, 1, 1]), Poly([-1, 1])
        self.assertEqual(str(same_fitting(([f], []), ([f], [g]))), "all but 3")
        self.assertEqual(str(same_fitting(([f], []), ([f * g], [g]))), "all but 3")
        self.assertEqual(str(same_fitting(([T], []), ([T * T * T], []))), "all but")
        self.assertEqual(str(same_fitting(([T], []), ([T - Poly([6])], []))), "primes 2 3")
        self.assertEqual(str(same_fitting(([], []), ([], [T]))), "primes")
        self.assertEqual(str(same_fitting(([], [Poly([6])]), ([], []))), "all but 2 3")
        self.assertEqual(str(same_fitting(([Poly([6])], []), ([ZERO], []))), "primes 2 3")
        self.assertEqual(str(same_fitting(([ONE], []), ([], [ZERO]))), "all but")
        # t^2 - 1 is (t - 1)^2 in the characteristic 2.
        self.assertEqual(str(same_fitting(([g * (T + ONE)], []), ([g], []))), "primes 2")

    def test_larger_fields_count(self):
        # Among the remainders modulo 3, t^2 + 1 is nowhere 0; but in the field with 9 numbers it is.
        self.assertEqual(fitting([Poly([1, 0, 1])], [], p=3), [])
        self.assertEqual(str(same_fitting(([Poly([1, 0, 1])], []), ([ONE], []))), "primes")

    def test_itself_and_both_orders(self):
        conditions = list(any_conditions(9, 60))
        for condition in conditions:
            self.assertEqual(same_fitting(condition, condition), Chars.every())
            turned = (condition[0][::-1], condition[1][::-1])
            self.assertEqual(same_fitting(condition, turned), Chars.every())
        for first, second in zip(conditions, conditions[1:]):
            self.assertEqual(same_fitting(first, second), same_fitting(second, first))

    def test_in_the_small_characteristics(self):
        conditions = list(any_conditions(10, 60))
        pairs = list(zip(conditions, conditions[1:]))
        pairs += [((a, b), (a[:1], b)) for a, b in conditions] + [((a, b), (a, b[:1])) for a, b in conditions]
        for first, second in pairs:
            found = same_fitting(first, second)
            self.assertIs(type(found), Chars)
            for p in (2, 3):
                # Polynomials of degrees up to 9 that are not 0 are not 0 at all of these numbers.
                same = LARGE[p].fitting(*first) == LARGE[p].fitting(*second)
                self.assertEqual(p in found, same, (first, second, p))


class TestPapers(unittest.TestCase):
    def test_just_one_of_the_two_is_there(self):
        for zeros, others in any_conditions(11, 80):
            found = somewhere(zeros, others)
            for p in SMALL + [9999999967]:
                paper, bar = witness(zeros, others, p=p), barring(zeros, others, p=p)
                self.assertEqual(paper is not None, p in found)
                self.assertEqual(bar is None, p in found)
                if paper is not None:
                    self.assertIs(type(paper), Poly)
                    self.assertTrue(self.shows(zeros, others, paper, p))
                    self.assertIs(is_witness(zeros, others, paper, p=p), True)
                else:
                    self.assertTrue(self.bars(zeros, others, bar, p))
                    self.assertIs(is_barring(zeros, others, bar, p=p), True)

    def shows(self, zeros, others, paper, p):
        """What point 8.6 asks for, for a polynomial that has its roots in a field of the tests."""
        if p not in LARGE or in_char(paper, p).degree() > 3:
            return in_char(paper, p).degree() >= 1
        roots = LARGE[p].fitting([paper], [])
        return bool(roots) and all(LARGE[p].value(f, x) == 0 for f in zeros for x in roots) \
            and all(LARGE[p].value(f, x) != 0 for f in others for x in roots)

    def bars(self, zeros, others, bar, p):
        """What point 8.7 asks for, by the values at many integers."""
        self.assertIs(type(bar), tuple)
        c, n, factors = bar
        self.assertEqual((type(c), type(n), type(factors), len(factors)), (int, int, list, len(zeros)))
        self.assertEqual([factor for factor in factors if type(factor) is not Poly], [])
        self.assertLessEqual(n, 5)
        both = ZERO
        for poly, factor in zip(zeros, factors):
            both = both + poly * factor
        power = Poly([c])
        for _ in range(n):
            for poly in others:
                power = power * poly
        return not is_zero(c, p) and n >= 0 and vanishes(both - power, p)

    def test_values(self):
        f, g = Poly([1, 1, 1]), Poly([-1, 1])
        self.assertIsNone(witness([f], [f], p=0))
        self.assertIsNone(witness([f, g], [], p=2))
        self.assertIsNone(barring([f, g], [], p=3))
        self.assertEqual(witness([T], [], p=0).degree(), 1)
        self.assertEqual(barring([], [ZERO], p=0)[2], [])
        self.assertGreater(barring([], [ZERO], p=0)[1], 0)
        # A root that the others have twice as often as the zeros needs a product of several copies.
        self.assertGreater(barring([T * T * T], [T], p=0)[1], 2)

    def test_numbers_that_are_all_remainders(self):
        # In the remainders modulo 2 nothing fits, but in larger fields.
        others = [T, T + ONE]
        self.assertIs(is_witness([], others, witness([], others, p=2), p=2), True)
        self.assertIs(is_witness([], others, Poly([1, 1, 1]), p=2), True)
        self.assertIs(is_witness([], others, T * T + T + ONE, p=5), True)

    def test_a_paper_of_0_serves_elsewhere(self):
        for zeros, others in any_conditions(12, 80):
            bar = barring(zeros, others, p=0)
            if bar is not None:
                for p in (2, 3, 5, 7):
                    if bar[0] % p != 0:
                        self.assertIs(is_barring(zeros, others, bar, p=p), True)
                        self.assertNotIn(p, somewhere(zeros, others))

    def test_wrong_witnesses(self):
        f, g = Poly([1, 1, 1]), Poly([-1, 1])
        self.assertIs(is_witness([f], [g], f, p=0), True)
        self.assertIs(is_witness([f], [g], f * Poly([5]), p=0), True)
        self.assertIs(is_witness([f], [g], f * Poly([5]), p=5), False)
        self.assertIs(is_witness([f], [g], f, p=3), False)
        for paper in (ZERO, ONE, Poly([7]), g, f * g, f * f, f + ONE, T):
            self.assertIs(is_witness([f], [g], paper, p=0), False, paper)
        # In the characteristic 7, f is (t - 2) * (t - 4), and so each of its factors will do.
        self.assertIs(is_witness([f], [g], Poly([-2, 1]), p=7), True)
        self.assertIs(is_witness([f], [g], Poly([-4, 1]), p=7), True)
        self.assertIs(is_witness([f], [g, Poly([-4, 1])], Poly([-4, 1]), p=7), False)
        self.assertIs(is_witness([f], [g], Poly([-2, 1]), p=5), False)
        # A degree that only some characteristics have.
        self.assertIs(is_witness([], [], Poly([1, 6]), p=0), True)
        self.assertIs(is_witness([], [], Poly([1, 6]), p=3), False)
        self.assertIs(is_witness([ZERO], [Poly([6])], T, p=3), False)
        self.assertIs(is_witness([ZERO], [Poly([6])], T, p=5), True)
        self.assertIs(is_witness([T], [ZERO], T, p=5), False)

    def test_wrong_barrings(self):
        f, g = Poly([1, 1, 1]), Poly([-1, 1])
        factors = [Poly([1]), Poly([-2, -1])]
        self.assertIs(is_barring([f, g], [], (3, 0, factors), p=2), True)
        self.assertIs(is_barring([f, g], [], (3, 4, factors), p=0), True)
        self.assertIs(is_barring([f, g], [], (3, 0, factors), p=3), False)
        self.assertIs(is_barring([f, g], [], (0, 0, [ZERO, ZERO]), p=0), False)
        self.assertIs(is_barring([f, g], [], (4, 0, factors), p=0), False)
        self.assertIs(is_barring([f, g], [], (5, 0, factors), p=2), True)
        self.assertIs(is_barring([f, g], [], (3, -1, factors), p=0), False)
        self.assertIs(is_barring([f, g], [], (3, 0, factors[:1]), p=0), False)
        self.assertIs(is_barring([f, g], [], (3, 0, factors + [ZERO]), p=0), False)
        self.assertIs(is_barring([f, g], [], (3, 0, factors[::-1]), p=0), False)
        self.assertIs(is_barring([g, f], [], (3, 0, factors[::-1]), p=0), True)
        self.assertIs(is_barring([f, g], [], (3, 0, [Poly([1]), Poly([-2, -2])]), p=0), False)

    def test_barrings_with_others(self):
        self.assertIs(is_barring([T * T], [T], (1, 2, [ONE]), p=0), True)
        self.assertIs(is_barring([T * T], [T], (1, 5, [T * T * T]), p=0), True)
        self.assertIs(is_barring([T * T], [T], (1, 1, [ONE]), p=0), False)
        self.assertIs(is_barring([T * T], [T, Poly([2])], (1, 2, [Poly([4])]), p=0), True)
        self.assertIs(is_barring([T * T], [T, Poly([2])], (1, 2, [ONE]), p=3), True)
        self.assertIs(is_barring([T * T], [T, Poly([2])], (1, 2, [ONE]), p=5), False)
        self.assertIs(is_barring([], [ZERO], (1, 1, []), p=0), True)
        self.assertIs(is_barring([], [ZERO], (1, 0, []), p=0), False)
        self.assertIs(is_barring([], [Poly([6])], (1, 1, []), p=3), True)
        self.assertIs(is_barring([], [Poly([6])], (1, 1, []), p=5), False)
        self.assertIs(is_barring([], [], (1, 0, []), p=5), False)
        self.assertIs(is_barring([], [], (1, 3, []), p=5), False)

    def test_one_thing_changed(self):
        chance = random.Random(13)
        for zeros, others in any_conditions(14, 200):
            for p in (0, 2, 3):
                bar = barring(zeros, others, p=p)
                if bar is None:
                    continue
                c, n, factors = bar
                changed = [(c + 1, n, factors), (c, n + 1, factors), (-c, n, factors), (0, n, factors)]
                for at in range(len(factors)):
                    more = factors[at] + Poly([0] * chance.randint(0, 2) + [chance.choice([1, 2, 6])])
                    changed.append((c, n, factors[:at] + [more] + factors[at + 1:]))
                for paper in changed:
                    self.assertIs(is_barring(zeros, others, paper, p=p), self.bars(zeros, others, paper, p))

    def test_papers_are_not_modified(self):
        f, g = Poly([1, 1, 1]), Poly([-1, 1])
        factors = [Poly([1]), Poly([-2, -1])]
        is_barring([f, g], [], (3, 0, factors), p=2)
        self.assertEqual(factors, [Poly([1]), Poly([-2, -1])])
        barring([f, g], [], p=0)[2].append(f)
        self.assertEqual(len(barring([f, g], [], p=0)[2]), 2)

    def test_no_characteristics(self):
        for p in NO_CHARACTERISTICS:
            expected = ("BadCharacteristic", {"p": p})
            for zeros in ([], [ONE], [T]):
                self.assertEqual(raised(witness, zeros, [], p=p), expected)
                self.assertEqual(raised(barring, zeros, [], p=p), expected)
                self.assertEqual(raised(is_witness, zeros, [], ZERO, p=p), expected)
                self.assertEqual(raised(is_barring, zeros, [], (0, -1, []), p=p), expected)

    def test_p_is_passed_by_keyword(self):
        for function in (fitting, least_power, witness, barring):
            self.assertRaises(TypeError, function, [T], [], 3)
        self.assertRaises(TypeError, is_witness, [T], [], T, 3)
        self.assertRaises(TypeError, is_barring, [T], [], (1, 0, [T]), 3)


class TestBeyondTheLimits(unittest.TestCase):
    def test_higher_degrees(self):
        # t^5 - t is 0 at all remainders modulo 5, and its roots fall together only where 2 is 0.
        f = Poly([0, -1, 0, 0, 0, 1])
        self.assertEqual(texts(how_many_there([f], [])), {5: "all but 2", 2: "primes 2"})
        self.assertEqual(texts(how_many_there([f], [T])), {4: "all but 2", 1: "primes 2"})
        self.assertEqual(texts(how_many_there([Poly([-2, 0, 0, 0, 0, 0, 1])], [])), {6: "all but 2 3", 1: "primes 2", 2: "primes 3"})
        self.assertEqual(least_power([Poly([1, 0, 1, 0, 0, 1])], [], p=2), 5)

    def test_greater_coefficients(self):
        n = 30030
        self.assertEqual(texts(how_many_there([Poly([-1, n])], [])),
                         {1: "all but 2 3 5 7 11 13", 0: "primes 2 3 5 7 11 13"})
        self.assertEqual(divisors_of(n), [2, 3, 5, 7, 11, 13])


class TestExamples(unittest.TestCase):
    def test_first(self):
        f, g = Poly([1, 1, 1]), Poly([-1, 1])
        self.assertEqual(
            [str(somewhere([f, g], [])), str(somewhere([f], [g])), texts(how_many_there([f], [g]))],
            ["primes 3", "all but 3", {2: "all but 3", 0: "primes 3"}])
        self.assertEqual(list(how_many_there([f], [g])), [2, 0])

    def test_second(self):
        f, g = Poly([1, 1, 1]), Poly([-1, 1])
        self.assertEqual(
            [fitting([f], [], p=7), least_power([f], [], p=2), least_power([f], [g], p=3), is_witness([f], [g], f, p=0),
             is_barring([f, g], [], (3, 0, [Poly([1]), Poly([-2, -1])]), p=2)],
            [[2, 4], 2, None, True, True])


if __name__ == "__main__":
    unittest.main()
