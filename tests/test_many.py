"""Tests of points 9.1 to 9.6, of 0.4 to 0.6 for these polynomials, and of the example of everyfield/many.py."""

import random
import unittest

from plain import LIMIT_PRIME, NO_CHARACTERISTICS, raised

from everyfield.chars import Chars
from everyfield.many import Many
from everyfield.matrices import Matrix
from everyfield.plane import Point
from everyfield.poly import Poly

LONG = 12345678901234567890
ZERO, ONE = Many.number(0), Many.number(1)
X, Y = Many.unknown("x"), Many.unknown("y")
NAMES = ["x", "x1", "xy", "X", "a1b2", "z"]


def from_terms(terms):
    """The polynomial with these coefficients by tuples of names."""
    found = ZERO
    for names, n in terms.items():
        term = Many.number(n)
        for name in names:
            term = term * Many.unknown(name)
        found = found + term
    return found


def cleaned(terms):
    """The coefficients other than 0, by sorted tuples of names."""
    found = {}
    for names, n in terms:
        names = tuple(sorted(names))
        found[names] = found.get(names, 0) + n
    return {names: n for names, n in found.items() if n != 0}


def plain_text(terms):
    if not terms:
        return "0"
    return " + ".join(" ".join([str(terms[names]), *names]) for names in sorted(terms, key=list))


def any_terms(chance, size=4, most=5):
    terms = []
    for _ in range(chance.randint(0, size)):
        names = [chance.choice(NAMES) for _ in range(chance.randint(0, 3))]
        terms.append((names, chance.choice([chance.randint(-most, most), LONG, -LONG])))
    return cleaned(terms)


def plain_value(terms, values):
    total = 0
    for names, n in terms.items():
        for name in names:
            n *= values[name]
        total += n
    return total


class TestMade(unittest.TestCase):
    def test_numbers(self):
        for n in (0, 1, -1, 6, LONG, -LONG):
            self.assertEqual(str(Many.number(n)), str(n))
            self.assertEqual(Many.number(n).names(), [])
            self.assertEqual(Many.number(n).content(), abs(n))
            self.assertEqual(Many.number(n).degree(), 0 if n else -1)

    def test_numbers_of_any_size(self):
        huge = 10 ** 6000 + 1
        self.assertEqual(Many.number(huge) * Many.number(-1), Many.number(-huge))
        self.assertEqual(Many.number(huge).content(), huge)
        self.assertEqual(Many.number(huge).value({}, p=7), huge % 7)
        self.assertEqual(str(Many.number(-huge) * X), "-1" + "0" * 5999 + "1 x")
        for n in (10 ** 60 - 1, 10 ** 60, 10 ** 120 + 5, -(10 ** 180), 3 * 10 ** 119):
            self.assertEqual(str(Many.number(n)), str(n))

    def test_unknowns(self):
        for name in NAMES + ["a", "Zz9", "abcdefghijkl"]:
            self.assertEqual(str(Many.unknown(name)), f"1 {name}")
            self.assertEqual(Many.unknown(name).names(), [name])
            self.assertEqual(Many.unknown(name).degree(), 1)
            self.assertEqual(Many.unknown(name).content(), 1)

    def test_names_that_share_a_beginning(self):
        x, x1, xy = Many.unknown("x"), Many.unknown("x1"), Many.unknown("xy")
        self.assertNotEqual(x, x1)
        self.assertNotEqual(x * Y, xy)
        self.assertEqual(str(x * Y + xy), "1 x y + 1 xy")
        self.assertEqual(str(x * x1 * xy), "1 x x1 xy")


class TestOperators(unittest.TestCase):
    def test_by_the_terms(self):
        chance = random.Random(1)
        for _ in range(300):
            first, second = any_terms(chance), any_terms(chance)
            f, g = from_terms(first), from_terms(second)
            total = cleaned(list(first.items()) + list(second.items()))
            less = cleaned(list(first.items()) + [(names, -n) for names, n in second.items()])
            both = cleaned([(a + b, m * n) for a, m in first.items() for b, n in second.items()])
            self.assertEqual(str(f), plain_text(first))
            self.assertEqual(str(f + g), plain_text(total))
            self.assertEqual(str(f - g), plain_text(less))
            self.assertEqual(str(f * g), plain_text(both))
            self.assertEqual(str(-f), plain_text({names: -n for names, n in first.items()}))
            for found in (f + g, f - g, f * g, -f):
                self.assertIs(type(found), Many)
            self.assertEqual((str(f), str(g)), (plain_text(first), plain_text(second)))

    def test_zero(self):
        for f in (X, X * Y - Many.number(3), ZERO, ONE):
            self.assertEqual(f + ZERO, f)
            self.assertEqual(ZERO + f, f)
            self.assertEqual(f - ZERO, f)
            self.assertEqual(ZERO - f, -f)
            self.assertEqual(f * ZERO, ZERO)
            self.assertEqual(ZERO * f, ZERO)
            self.assertEqual(f - f, ZERO)
            self.assertEqual(f * ONE, f)
        self.assertEqual(-ZERO, ZERO)

    def test_terms_that_cancel(self):
        f = (X + Y) * (X - Y)
        self.assertEqual(str(f), "1 x x + -1 y y")
        self.assertEqual(f + Y * Y, X * X)
        self.assertEqual((f - X * X + Y * Y).names(), [])
        self.assertEqual(str(f - f), "0")

    def test_equal(self):
        self.assertTrue(X * Y == Y * X)
        self.assertFalse(X * Y != Y * X)
        self.assertFalse(X == Y)
        self.assertFalse(X == Many.unknown("X"))
        self.assertFalse(X == X * X)
        self.assertFalse(X == X + X)
        self.assertFalse(Many.number(6) == Many.number(-6))
        self.assertIs(X == X + ZERO, True)
        self.assertIs(X == Y, False)

    def test_another_kind(self):
        for other in (0, 1, "0", "1 x", None, [], (), {}, Poly([]), Poly([1]), Matrix([[0]]), Chars.none(),
                      Point(ZERO, ZERO, ZERO)):
            for many in (ZERO, ONE, X):
                self.assertFalse(many == other)
                self.assertFalse(other == many)
                self.assertTrue(many != other)


class TestAsked(unittest.TestCase):
    def test_names(self):
        f = Many.unknown("z") * Many.unknown("X") + Many.unknown("x10") - Many.unknown("x9") + Many.unknown("a")
        self.assertEqual(f.names(), ["X", "a", "x10", "x9", "z"])
        f.names().append("b")
        self.assertEqual(len(f.names()), 5)
        self.assertEqual(ZERO.names(), [])
        self.assertEqual((X * Y - X * Y + X).names(), ["x"])

    def test_degree(self):
        self.assertEqual([f.degree() for f in (ZERO, ONE, X, X * X * Y, X * X * Y + Y, X * X - X * X + Y)],
                         [-1, 0, 1, 3, 3, 1])

    def test_content(self):
        two, six = Many.number(2), Many.number(6)
        self.assertEqual([f.content() for f in (ZERO, ONE, -six, six * X - two * two * Y, six * X + ONE, -six * X * Y)],
                         [0, 1, 6, 2, 1, 6])
        self.assertEqual((Many.number(LONG) * X - Many.number(10 * LONG)).content(), LONG)

    def test_vanishing(self):
        six = Many.number(6)
        self.assertEqual(ZERO.vanishing(), Chars.every())
        self.assertEqual(ONE.vanishing(), Chars.none())
        self.assertEqual(Many.number(-12).vanishing(), Chars.only(2, 3))
        self.assertEqual(X.vanishing(), Chars.none())
        self.assertEqual((six * X).vanishing(), Chars.only(2, 3))
        self.assertEqual((six * X + Many.number(4)).vanishing(), Chars.only(2))
        self.assertEqual((Many.number(LIMIT_PRIME) * X * Y).vanishing(), Chars.only(LIMIT_PRIME))
        self.assertIs(type(X.vanishing()), Chars)

    def test_text(self):
        f = X * X - Many.number(2) * Y * X + Many.number(3)
        self.assertEqual(str(f), "3 + 1 x x + -2 x y")
        self.assertEqual(str(X * X * X + X * X * Y + X + X * Y), "1 x + 1 x x x + 1 x x y + 1 x y")
        self.assertEqual(str(Many.number(-LONG) * Y - Many.unknown("Y")), f"-1 Y + -{LONG} y")
        self.assertEqual(str(Many.unknown("b") * Many.unknown("a") + Many.unknown("a1")), "1 a b + 1 a1")


class TestPut(unittest.TestCase):
    def test_values(self):
        f = X * X * Y - Many.number(3) * X + Y + Many.number(5)
        self.assertEqual(str(f.put({})), str(f))
        self.assertEqual(str(f.put({"x": 2})), "-1 + 5 y")
        self.assertEqual(str(f.put({"y": -1})), "4 + -3 x + -1 x x")
        self.assertEqual(str(f.put({"x": 2, "y": 10})), "49")
        self.assertEqual(str(f.put({"x": 0})), "5 + 1 y")
        self.assertEqual(str((X * Y).put({"x": 0})), "0")
        self.assertEqual(str((X * Y - Y).put({"x": 1})), "0")
        self.assertEqual(str(f.put({"X": 2, "z": 0, "x1": 9})), str(f))
        self.assertEqual(ZERO.put({"x": 1}), ZERO)
        self.assertEqual(str(X.put({"x": LONG})), str(LONG))

    def test_by_the_terms(self):
        chance = random.Random(2)
        for _ in range(200):
            terms = any_terms(chance)
            values = {name: chance.randint(-4, 4) for name in NAMES}
            some = {name: values[name] for name in chance.sample(NAMES, chance.randint(0, 6))}
            f = from_terms(terms)
            found = f.put(some)
            self.assertIs(type(found), Many)
            self.assertFalse([name for name in found.names() if name in some])
            self.assertEqual(found.value(values, p=0), plain_value(terms, values))
            self.assertEqual(str(f), plain_text(terms))
            self.assertEqual(f.put(values), Many.number(plain_value(terms, values)))

    def test_values_are_not_modified(self):
        values = {"x": 2, "z": 1}
        (X * Y).put(values)
        X.value(values, p=3)
        self.assertEqual(values, {"x": 2, "z": 1})


class TestValue(unittest.TestCase):
    def test_values(self):
        f = X * X - Many.number(7) * Y
        self.assertEqual(f.value({"x": 3, "y": 2}, p=0), -5)
        self.assertEqual(f.value({"x": 3, "y": 2}, p=2), 1)
        self.assertEqual(f.value({"x": 3, "y": 2}, p=5), 0)
        self.assertEqual(f.value({"x": 3, "y": 2}, p=LIMIT_PRIME), LIMIT_PRIME - 5)
        self.assertEqual(f.value({"x": LONG, "y": -LONG, "z": 1}, p=0), LONG * LONG + 7 * LONG)
        self.assertEqual(ZERO.value({}, p=3), 0)
        self.assertEqual(Many.number(-1).value({}, p=3), 2)
        self.assertEqual(Many.number(-1).value({}, p=0), -1)

    def test_by_the_terms(self):
        chance = random.Random(3)
        for _ in range(200):
            terms = any_terms(chance)
            values = {name: chance.choice([chance.randint(-4, 4), LONG]) for name in NAMES}
            for p in (0, 2, 3, 7):
                total = plain_value(terms, values)
                found = from_terms(terms).value(values, p=p)
                self.assertEqual(found, total % p if p else total)
                self.assertIs(type(found), int)

    def test_a_name_that_is_missing(self):
        f = Many.unknown("b") * Many.unknown("a") + Many.unknown("B")
        self.assertEqual(raised(f.value, {}, p=0), ("UnknownName", {"name": "B"}))
        self.assertEqual(raised(f.value, {"B": 1}, p=2), ("UnknownName", {"name": "a"}))
        self.assertEqual(raised(f.value, {"B": 1, "a": 0}, p=2), ("UnknownName", {"name": "b"}))
        self.assertEqual(raised(f.value, {"B": 1, "b": 0, "A": 1}, p=2), ("UnknownName", {"name": "a"}))
        self.assertIsNone(raised(f.value, {"B": 1, "b": 0, "a": 1}, p=2))
        self.assertIsNone(raised((X - X).value, {}, p=2))

    def test_no_characteristics_come_first(self):
        for p in NO_CHARACTERISTICS:
            for f in (X, ZERO, X * Y):
                self.assertEqual(raised(f.value, {}, p=p), ("BadCharacteristic", {"p": p}))
                self.assertEqual(raised(f.value, {"x": 1, "y": 1}, p=p), ("BadCharacteristic", {"p": p}))

    def test_p_is_passed_by_keyword(self):
        self.assertRaises(TypeError, X.value, {"x": 1}, 3)


class TestExample(unittest.TestCase):
    def test_it(self):
        f = (X + Y) * (X + Y) - X * X - Y * Y
        self.assertEqual(
            [str(f), f.content(), str(f.vanishing()), f.names(), f.degree(), str(f.put({"x": 3})),
             f.value({"x": 1, "y": 2}, p=3)],
            ["2 x y", 2, "primes 2", ["x", "y"], 2, "6 y", 1])


if __name__ == "__main__":
    unittest.main()
