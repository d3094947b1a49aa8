"""Tests of points 10.1 to 10.6, of 0.4 to 0.6 for points and lines, and of the example of everyfield/plane.py."""

import random
import unittest
from itertools import product
from math import gcd

from plain import LIMIT_PRIME, NO_CHARACTERISTICS, determinant, raised

from everyfield.chars import Chars
from everyfield.many import Many
from everyfield.plane import Line, Point, cross, dot, normal, points_of, points_on, volume

LONG = 12345678901234567890
NO_PRIMES = [0, *NO_CHARACTERISTICS]


def whole(*numbers):
    return tuple(Many.number(n) for n in numbers)


def unknowns(*names):
    return tuple(Many.unknown(name) for name in names)


def plain_cross(first, second):
    (a, b, c), (d, e, f) = first, second
    return b * f - c * e, c * d - a * f, a * e - b * d


def any_triple(chance, most=4):
    return tuple(chance.randint(-most, most) for _ in range(3))


def line_of(*numbers):
    return Line(*whole(*numbers))


class TestTriples(unittest.TestCase):
    def test_of_unknowns(self):
        first, second, third = unknowns("a", "b", "c"), unknowns("d", "e", "f"), unknowns("g", "h", "i")
        self.assertEqual([str(many) for many in cross(first, second)],
                         ["1 b f + -1 c e", "-1 a f + 1 c d", "1 a e + -1 b d"])
        self.assertEqual(str(dot(first, second)), "1 a d + 1 b e + 1 c f")
        self.assertEqual(str(volume(first, second, third)),
                         "1 a e i + -1 a f h + -1 b d i + 1 b f g + 1 c d h + -1 c e g")

    def test_of_numbers(self):
        chance = random.Random(1)
        for _ in range(100):
            a, b, c = any_triple(chance), any_triple(chance), any_triple(chance, LONG)
            first, second, third = whole(*a), whole(*b), whole(*c)
            found = cross(first, second)
            self.assertEqual((type(found), {type(many) for many in found}), (tuple, {Many}))
            self.assertEqual(found, whole(*plain_cross(a, b)))
            self.assertEqual(dot(first, third), Many.number(sum(m * n for m, n in zip(a, c))))
            self.assertEqual(volume(first, second, third), Many.number(determinant([a, b, c])))
            for triple in (first, second):
                self.assertEqual(dot(found, triple), Many.number(0))

    def test_of_one_triple_twice(self):
        triple = unknowns("a", "b", "c")
        self.assertEqual(cross(triple, triple), whole(0, 0, 0))
        self.assertEqual(volume(triple, triple, whole(1, 2, 3)), Many.number(0))


class TestPointsAndLines(unittest.TestCase):
    def test_made(self):
        triple = unknowns("a", "b", "c")
        self.assertEqual(Point(*triple).coordinates, triple)
        self.assertEqual(Line(*triple).coordinates, triple)
        self.assertIs(type(Point(*triple).coordinates), tuple)
        self.assertIs(type(Line(*triple).coordinates), tuple)
        self.assertEqual(Point.whole(1, -2, LONG).coordinates, whole(1, -2, LONG))
        self.assertIs(type(Point.whole(1, 0, 0)), Point)

    def test_loose(self):
        for name in ("a", "p1", "abcdefghijk"):
            self.assertEqual(Point.loose(name).coordinates, unknowns(name + "x", name + "y", name + "z"))
        self.assertIs(type(Point.loose("a")), Point)
        self.assertEqual([str(many) for many in Point.loose("a").coordinates], ["1 ax", "1 ay", "1 az"])

    def test_equal(self):
        triple = unknowns("a", "b", "c")
        self.assertTrue(Point(*triple) == Point(*triple))
        self.assertTrue(Line(*triple) == Line(*triple))
        self.assertFalse(Point(*triple) != Point(*triple))
        self.assertFalse(Line(*triple) != Line(*triple))
        self.assertFalse(Point(*triple) == Line(*triple))
        self.assertFalse(Line(*triple) == Point(*triple))
        self.assertTrue(Point(*triple) != Line(*triple))
        self.assertFalse(Point(*triple) == Point(*triple[::-1]))
        self.assertFalse(Line(*triple) == Line(*triple[::-1]))
        # The same point, but another triple.
        self.assertFalse(Point.whole(1, 2, 3) == Point.whole(2, 4, 6))
        self.assertIs(Point.whole(1, 2, 3) == Point.whole(1, 2, 3), True)

    def test_another_kind(self):
        triple = whole(1, 2, 3)
        for other in (triple, list(triple), (1, 2, 3), None, 1, "1 2 3", Many.number(1), Chars.every()):
            for thing in (Point(*triple), Line(*triple)):
                self.assertFalse(thing == other)
                self.assertFalse(other == thing)

    def test_line_to_and_crossing(self):
        a, b = Point.loose("a"), Point.whole(1, 0, 2)
        found = a.line_to(b)
        self.assertIs(type(found), Line)
        self.assertEqual(found.coordinates, cross(a.coordinates, b.coordinates))
        back = found.crossing(line_of(0, 1, 3))
        self.assertIs(type(back), Point)
        self.assertEqual(back.coordinates, cross(found.coordinates, whole(0, 1, 3)))
        self.assertEqual(b.line_to(a).coordinates, cross(b.coordinates, a.coordinates))

    def test_with_itself(self):
        for point in (Point.whole(1, 2, 3), Point.loose("a")):
            self.assertEqual(point.line_to(point), line_of(0, 0, 0))
            self.assertEqual(point.line_to(point).possible(), Chars.none())
        line = line_of(1, 2, 3)
        self.assertEqual(line.crossing(line), Point.whole(0, 0, 0))

    def test_off(self):
        a, b = Point.loose("a"), Point.loose("b")
        self.assertEqual(a.off(a.line_to(b)), Many.number(0))
        self.assertEqual(b.off(a.line_to(b)), Many.number(0))
        self.assertEqual(Point.whole(1, 2, 3).off(line_of(4, -5, 6)), Many.number(12))
        self.assertEqual(str(a.off(line_of(1, 0, -2))), "1 ax + -2 az")
        self.assertEqual(Point.loose("c").off(a.line_to(b)),
                         volume(a.coordinates, b.coordinates, Point.loose("c").coordinates))


class TestPossible(unittest.TestCase):
    def check(self, triple, expected):
        for thing in (Point(*triple), Line(*triple)):
            self.assertIs(type(thing.possible()), Chars)
            self.assertEqual(str(thing.possible()), expected)

    def test_values(self):
        self.check(whole(0, 0, 0), "primes")
        self.check(whole(0, 1, 0), "all but")
        self.check(whole(6, 10, 15), "all but")
        self.check(whole(6, 12, 18), "all but 2 3")
        self.check(whole(0, 0, -4), "all but 2")
        self.check(whole(LIMIT_PRIME, 0, 0), f"all but {LIMIT_PRIME}")

    def test_with_unknowns(self):
        x, y = unknowns("x", "y")
        self.check((x, y, x * y), "all but")
        self.check((Many.number(6) * x, Many.number(0), Many.number(10) * y), "all but 2")
        self.check((Many.number(6) * x + Many.number(3) * y, Many.number(0), Many.number(9)), "all but 3")
        self.check((x - x, y - y, Many.number(0)), "primes")

    def test_contents_with_large_prime_divisors(self):
        # Only what divides all three coordinates counts.
        huge = 10 ** 40 + 7
        self.check(whole(huge * 3, (huge + 1) * 3, 3), "all but 3")


class TestNormal(unittest.TestCase):
    def test_values(self):
        self.assertEqual(normal((0, 4, 2), p=5), (0, 1, 3))
        self.assertEqual(normal([0, 4, 2], p=5), (0, 1, 3))
        self.assertEqual(normal((0, 4, 2), p=0), (0, 2, 1))
        self.assertEqual(normal((0, 4, 2), p=2), None)
        self.assertEqual(normal((0, -4, 2), p=0), (0, 2, -1))
        self.assertEqual(normal([-6, -9, 0], p=0), (2, 3, 0))
        self.assertEqual(normal((0, 0, -7), p=0), (0, 0, 1))
        self.assertEqual(normal((-1, -2, -3), p=7), (1, 2, 3))
        self.assertEqual(normal((7, 3, 14), p=7), (0, 1, 0))
        self.assertEqual(normal((LONG, -2 * LONG, 0), p=0), (1, -2, 0))
        self.assertEqual(normal((LONG, -2 * LONG, 7), p=0), (LONG, -2 * LONG, 7))
        self.assertEqual(normal((2, 0, 1), p=LIMIT_PRIME), (1, 0, (LIMIT_PRIME + 1) // 2))

    def test_none(self):
        for p in (0, 2, 3, LIMIT_PRIME):
            self.assertIsNone(normal((0, 0, 0), p=p))
            self.assertIsNone(normal([0, 0, 0], p=p))
        self.assertIsNone(normal((6, -12, 18), p=3))

    def test_the_chosen_one(self):
        chance = random.Random(2)
        for _ in range(300):
            triple = any_triple(chance, chance.choice([2, 6, LONG]))
            for p in (0, 2, 3, 5, 31):
                found = normal(triple, p=p)
                if not any(n % p if p else n for n in triple):
                    self.assertIsNone(found)
                    continue
                self.assertEqual((type(found), {type(n) for n in found}), (tuple, {int}))
                self.assertTrue(all(n == 0 if p == 0 else n % p == 0 for n in plain_cross(triple, found)))
                lead = next(n for n in found if n != 0)
                if p:
                    self.assertTrue(all(0 <= n < p for n in found) and lead == 1)
                else:
                    self.assertTrue(gcd(*found) == 1 and lead > 0)
                self.assertEqual(normal(list(triple), p=p), found)

    def test_the_list_is_not_modified(self):
        triple = [0, 4, 2]
        normal(triple, p=5)
        self.assertEqual(triple, [0, 4, 2])

    def test_no_characteristics(self):
        for p in NO_CHARACTERISTICS:
            self.assertEqual(raised(normal, (0, 0, 0), p=p), ("BadCharacteristic", {"p": p}))
            self.assertEqual(raised(normal, (1, 2, 3), p=p), ("BadCharacteristic", {"p": p}))
        self.assertRaises(TypeError, normal, (1, 2, 3), 5)


class TestSeen(unittest.TestCase):
    def test_values(self):
        values = {"ax": 2, "ay": -4, "az": 6, "b": 9}
        self.assertEqual(Point.loose("a").seen(values, p=0), (1, -2, 3))
        self.assertEqual(Point.loose("a").seen(values, p=5), (1, 3, 3))
        self.assertIsNone(Point.loose("a").seen(values, p=2))
        self.assertIsNone(Point.loose("a").seen({"ax": 0, "ay": 0, "az": 0}, p=0))
        self.assertEqual(Line(*unknowns("ax", "ax", "b")).seen(values, p=0), (2, 2, 9))
        self.assertEqual(Line(*unknowns("ax", "ax", "b")).seen(values, p=3), (1, 1, 0))
        self.assertEqual(Point.whole(6, 10, 0).seen({}, p=0), (3, 5, 0))
        self.assertEqual(Point.whole(6, 10, 0).seen({}, p=2), None)
        self.assertEqual(Point.whole(6, 10, 0).seen({}, p=3), (0, 1, 0))
        self.assertIs(type(Point.whole(6, 10, 0).seen({}, p=3)), tuple)

    def test_a_choice_that_lacks_an_unknown(self):
        for kind in (Point, Line):
            thing = kind(*unknowns("c", "b", "a"))
            self.assertEqual(raised(thing.seen, {}, p=0), ("UnknownName", {"name": "c"}))
            self.assertEqual(raised(thing.seen, {"c": 0}, p=0), ("UnknownName", {"name": "b"}))
            self.assertEqual(raised(thing.seen, {"c": 0, "b": 1}, p=2), ("UnknownName", {"name": "a"}))
            self.assertIsNone(raised(thing.seen, {"c": 0, "b": 1, "a": 2}, p=2))

    def test_no_characteristics_come_first(self):
        for p in NO_CHARACTERISTICS:
            for thing in (Point.loose("a"), Line(*unknowns("a", "b", "c")), Point.whole(1, 2, 3)):
                self.assertEqual(raised(thing.seen, {}, p=p), ("BadCharacteristic", {"p": p}))

    def test_p_is_passed_by_keyword(self):
        for thing in (Point.whole(1, 2, 3), line_of(1, 2, 3)):
            self.assertRaises(TypeError, thing.seen, {}, 3)


class TestAllPoints(unittest.TestCase):
    def test_number_and_order(self):
        self.assertEqual(list(points_of(2)),
                         [(0, 0, 1), (0, 1, 0), (0, 1, 1), (1, 0, 0), (1, 0, 1), (1, 1, 0), (1, 1, 1)])
        for p in (2, 3, 5, 7, 31):
            found = list(points_of(p))
            self.assertEqual(len(found), p * p + p + 1)
            self.assertEqual(found, sorted(found))
            self.assertEqual({type(point) for point in found}, {tuple})
            if p < 10:
                expected = {normal(triple, p=p) for triple in product(range(p), repeat=3)} - {None}
                self.assertEqual(found, sorted(expected))

    def test_two_walks_by_turns(self):
        first, second = points_of(3), points_of(3)
        pairs = [(next(first), next(second)) for _ in range(13)]
        self.assertEqual([a for a, _ in pairs], list(points_of(3)))
        self.assertEqual([b for _, b in pairs], list(points_of(3)))
        self.assertRaises(StopIteration, next, first)

    def test_no_primes_when_the_first_one_is_asked_for(self):
        for p in NO_PRIMES:
            walk = points_of(p)
            self.assertEqual(raised(next, walk), ("BadCharacteristic", {"p": p}))
            self.assertEqual(raised(points_on, (1, 0, 0), p), ("BadCharacteristic", {"p": p}))
            self.assertEqual(raised(points_on, (0, 0, 0), p), ("BadCharacteristic", {"p": p}))

    def test_points_on(self):
        self.assertEqual(points_on((1, 1, 1), 2), [(0, 1, 1), (1, 0, 1), (1, 1, 0)])
        self.assertEqual(points_on([1, 1, 1], 2), points_on((1, 1, 1), 2))
        self.assertEqual(points_on((0, 0, 1), 3), [(0, 1, 0), (1, 0, 0), (1, 1, 0), (1, 2, 0)])
        self.assertEqual(points_on((-1, 3, LONG), 3), points_on((2, 0, LONG % 3), 3))
        for p in (2, 3, 5):
            for line in points_of(p):
                found = points_on(line, p)
                self.assertEqual(len(found), p + 1)
                self.assertEqual(found, [point for point in points_of(p)
                                         if sum(m * n for m, n in zip(line, point)) % p == 0])

    def test_a_line_that_is_0(self):
        self.assertEqual(points_on((0, 0, 0), 3), list(points_of(3)))
        self.assertEqual(points_on((6, -12, 9), 3), list(points_of(3)))
        self.assertEqual(len(points_on([31, 62, 0], 31)), 31 * 31 + 31 + 1)

    def test_the_list_is_a_new_one(self):
        points_on((1, 1, 1), 2).clear()
        self.assertEqual(len(points_on((1, 1, 1), 2)), 3)


class TestExample(unittest.TestCase):
    def test_it(self):
        a, b, c, d = Point.whole(1, 0, 0), Point.whole(0, 1, 0), Point.whole(0, 0, 1), Point.whole(1, 1, 1)
        corners = [a.line_to(b).crossing(c.line_to(d)), a.line_to(c).crossing(b.line_to(d)),
                   a.line_to(d).crossing(b.line_to(c))]
        self.assertEqual(
            [str(volume(corners[0].coordinates, corners[1].coordinates, corners[2].coordinates)),
             corners[0].seen({}, p=0), corners[1].seen({}, p=3), normal((0, 4, 2), p=5), points_on((1, 1, 1), 2)],
            ["2", (1, 1, 0), (1, 0, 1), (0, 1, 3), [(0, 1, 1), (1, 0, 1), (1, 1, 0)]])


if __name__ == "__main__":
    unittest.main()
