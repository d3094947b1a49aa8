"""Tests of points 12.1 to 12.7, of 0.4 to 0.7 for numbers built by ruler, and of the examples of everyfield/ruler.py."""

import random
import unittest
from fractions import Fraction

from plain import LIMIT_PRIME, NO_CHARACTERISTICS, divisors_of, raised

from everyfield.chars import Chars
from everyfield.ruler import Ruler, built

NO_PRIMES = [0, *NO_CHARACTERISTICS]
SMALL = [2, 3, 5, 7, 11, 13, 17, 19, 23, 29, 31, 37, 41, 43, 47]

ROWS = [
    "sum two one one", "sum three two one", "sum four two two", "quotient half one two", "opposite minus four",
    "product six two three", "quotient back six three", "sum whole half half", "sum none minus four",
    "quotient never one none", "sum later never one", "quotient third half minus",
]


def ruled(*rows):
    return Ruler("\n".join(rows))


def plain_numbers(rows, field):
    """The numbers by names, None for those that are not there; field is 0 for fractions, or a prime."""
    found = {"zero": Fraction(0), "one": Fraction(1)}
    for row in rows:
        word, name, *rest = row.split(" ")
        values = [found[other] for other in rest]
        if None in values or (word == "quotient" and values[1] == 0):
            found[name] = None
            continue
        if word == "sum":
            number = values[0] + values[1]
        elif word == "product":
            number = values[0] * values[1]
        elif word == "opposite":
            number = -values[0]
        elif field == 0:
            number = values[0] / values[1]
        else:
            number = values[0] * pow(int(values[1]), -1, field)
        found[name] = number if field == 0 else Fraction(int(number) % field)
    return found


def any_rows(chance, size):
    names, rows = ["zero", "one"], []
    for at in range(size):
        name = "".join(chance.choice("abcxyz") for _ in range(3)) + "abcdefghijklmnopqrstuvwxyz"[at]
        word = chance.choice(["sum", "sum", "product", "quotient", "opposite"])
        some = names[-4:] if chance.randint(0, 1) else names
        rest = [chance.choice(some) for _ in range(1 if word == "opposite" else 2)]
        rows.append(" ".join([word, name, *rest]))
        names.append(name)
    return rows


def is_small(rows):
    """True if all fractions are within the limits of the document."""
    return all(number is None or max(abs(number.numerator), number.denominator) <= 3000
               for number in plain_numbers(rows, 0).values())


def cross(first, second):
    (a, b, c), (d, e, f) = first, second
    return b * f - c * e, c * d - a * f, a * e - b * d


def normal(triple, p):
    lead = next(n % p for n in triple if n % p != 0)
    return tuple(n * pow(lead, -1, p) % p for n in triple)


def plain_shown(word, numbers, p):
    """The joins and meets of a step, word for word as point 12.6 has them."""
    top, above, one, zero = (0, 1, 1), (0, 1, 0), (1, 0, 1), (0, 0, 1)
    axis, level, upright, far = (0, 1, 0), (0, 1, -1), (1, 0, 0), (0, 0, 1)
    rows = []

    def make(kind, first, second):
        found = normal(cross(first, second), p)
        rows.append((kind, found, normal(first, p), normal(second, p)))
        return found

    def join(first, second):
        return make("join", first, second)

    def meet(first, second):
        return make("meet", first, second)

    def beside(line, point):
        at = meet(line, far)
        return join(point, at)

    a = (numbers[0], 0, 1)
    b = (numbers[-1], 0, 1)
    if word == "sum":
        first = join(top, b)
        it = join(a, above)
        point = meet(it, level)
        it = beside(first, point)
        meet(it, axis)
    elif word == "opposite":
        it = join(a, above)
        point = meet(it, level)
        line = join(point, zero)
        it = beside(line, top)
        meet(it, axis)
    elif word == "product":
        line = join(one, top)
        it = beside(line, b)
        point = meet(it, upright)
        line = join(top, a)
        it = beside(line, point)
        meet(it, axis)
    else:
        line = join(one, top)
        it = beside(line, b)
        point = meet(it, upright)
        line = join(point, a)
        it = beside(line, top)
        meet(it, axis)
    return rows


class TestTexts(unittest.TestCase):
    def test_each_rule(self):
        ruler = ruled(*ROWS)
        self.assertEqual(ruler.names(), [row.split(" ")[1] for row in ROWS])
        self.assertEqual([ruler.as_fraction(name) for name in ruler.names()],
                         [(2, 1), (3, 1), (4, 1), (1, 2), (-4, 1), (6, 1), (2, 1), (1, 1), (0, 1), None, None, (-1, 8)])

    def test_names(self):
        for name in ("a", "z", "abcdefgh", "sum", "quotient", "ones", "zeros"):
            self.assertEqual(ruled(f"sum {name} one one").names(), [name])
        for name in ("", "A", "aB", "abcdefghi", "a1", "a_b", "a-", "\u00e4", "zero", "one", "a\t"):
            self.assertEqual(raised(ruled, f"sum {name} one one"), ("BadStep", {"at": 0}), name)

    def test_lines_that_are_no_steps(self):
        bad = [
            "", " ", "sum", "sum a", "sum a one", "sum a one one one", "sum a one one ", " sum a one one", "sum  a one one",
            "sum a  one one", "Sum a one one", "add a one one", "a", "sum two one one", "sum a b one", "sum a one b", "sum a a one",
            "sum a one a", "opposite", "opposite a", "opposite a one one", "opposite a a", "opposite a b", "opposite two one",
            "opposite one one", "opposite zero one", "product a one", "product a one one one", "quotient a one", "quotient a",
            "quotient a one one one", "product zero one one", "sum a One one", "sum a 1 1", "join a one one", "opposite a one ",
            "sum a one\tone", "quotient A one one",
        ]
        for row in bad:
            self.assertEqual(raised(ruled, "sum two one one", "opposite less two", row), ("BadStep", {"at": 2}), row)
            self.assertEqual(raised(ruled, "sum two one one", "opposite less two", row, "sum x one one", row),
                             ("BadStep", {"at": 2}), row)

    def test_the_first_wrong_line(self):
        self.assertEqual(raised(Ruler, ""), ("BadStep", {"at": 0}))
        self.assertEqual(raised(Ruler, "\n"), ("BadStep", {"at": 0}))
        self.assertEqual(raised(Ruler, "sum a one one\n"), ("BadStep", {"at": 1}))
        self.assertEqual(raised(Ruler, "\nsum a one one"), ("BadStep", {"at": 0}))
        # A name that a later line gives.
        self.assertEqual(raised(Ruler, "sum a one b\nsum b one one"), ("BadStep", {"at": 0}))
        # A quotient by 0 is a step all the same.
        self.assertEqual(Ruler("quotient a one zero").names(), ["a"])

    def test_the_list_is_a_new_one(self):
        ruler = ruled(*ROWS)
        ruler.names().clear()
        self.assertEqual(len(ruler.names()), len(ROWS))


class TestNumbers(unittest.TestCase):
    def test_with_zero_and_one(self):
        for first, a in (("zero", 0), ("one", 1)):
            self.assertEqual(ruled("opposite x " + first).as_fraction("x"), (-a, 1))
            for second, b in (("zero", 0), ("one", 1)):
                both = f" x {first} {second}"
                self.assertEqual(ruled("sum" + both).as_fraction("x"), (a + b, 1))
                self.assertEqual(ruled("product" + both).as_fraction("x"), (a * b, 1))
                self.assertEqual(ruled("quotient" + both).as_fraction("x"), (a, 1) if b else None)
                self.assertEqual(ruled("quotient" + both).possible("x"), Chars.every() if b else Chars.none())
                for p in (2, 3, LIMIT_PRIME):
                    self.assertEqual(ruled("sum" + both).value("x", p=p), (a + b) % p)
                    self.assertEqual(ruled("product" + both).value("x", p=p), a * b)
                    self.assertEqual(ruled("quotient" + both).value("x", p=p), a if b else None)
                    self.assertEqual(ruled("opposite x " + first).value("x", p=p), -a % p)

    def test_the_given_numbers(self):
        ruler = ruled("sum two one one")
        for name, n in (("zero", 0), ("one", 1)):
            self.assertEqual(ruler.as_fraction(name), (n, 1))
            self.assertEqual(ruler.value(name, p=2), n)
            self.assertEqual(ruler.possible(name), Chars.every())
            self.assertEqual(ruler.shown(name, p=2), [])
            self.assertEqual(ruler.same(name, name), Chars.every())
        self.assertEqual(str(ruler.same("zero", "one")), "primes")
        self.assertEqual(str(ruler.same("two", "zero")), "primes 2")

    def test_quotients_by_0_in_some_characteristics(self):
        ruler = ruled(*ROWS)
        self.assertEqual(str(ruler.possible("half")), "all but 2")
        self.assertEqual(str(ruler.possible("back")), "all but 3")
        self.assertEqual(str(ruler.possible("whole")), "all but 2")
        self.assertEqual(str(ruler.possible("third")), "all but 2")
        self.assertEqual(str(ruler.possible("never")), "primes")
        self.assertEqual(str(ruler.possible("later")), "primes")
        self.assertEqual(str(ruler.possible("six")), "all but")
        # The number 2 is the same as 6 / 3, but not where 3 is 0; and 1 / 2 + 1 / 2 is 1, but not where 2 is 0.
        self.assertEqual(str(ruler.same("two", "back")), "all but 3")
        self.assertEqual(str(ruler.same("whole", "one")), "all but 2")
        self.assertEqual(str(ruler.same("one", "whole")), "all but 2")
        self.assertEqual(str(ruler.same("never", "never")), "primes")
        self.assertEqual(str(ruler.same("one", "never")), "primes")
        self.assertEqual(str(ruler.same("half", "half")), "all but 2")
        self.assertEqual(str(ruler.same("half", "six")), "primes 11")
        self.assertEqual(str(ruler.same("minus", "six")), "primes 2 5")
        self.assertEqual([ruler.value("back", p=p) for p in (2, 3, 5)], [0, None, 2])
        self.assertEqual([ruler.value("later", p=p) for p in (2, 3)], [None, None])

    def test_numbers_of_other_ways(self):
        # What a step does not need may be missing.
        ruler = ruled("quotient bad one zero", "sum two one one", "quotient half one two", "product four two two")
        self.assertEqual(ruler.as_fraction("four"), (4, 1))
        self.assertEqual(str(ruler.possible("four")), "all but")
        self.assertEqual(ruler.value("four", p=2), 0)

    def test_lowest_terms(self):
        rows = ["sum two one one", "sum four two two", "opposite minus four", "quotient a two four", "quotient b four minus",
                "quotient c minus four", "quotient d two minus", "sum e a d", "quotient f zero minus", "product g two a"]
        ruler = ruled(*rows)
        self.assertEqual([ruler.as_fraction(name) for name in "abcdefg"],
                         [(1, 2), (-1, 1), (-1, 1), (-1, 2), (0, 1), (0, 1), (1, 1)])
        for name in "abcdefg":
            self.assertEqual([type(n) for n in ruler.as_fraction(name)], [int, int])

    def test_by_the_numbers(self):
        chance = random.Random(1)
        tried = 0
        while tried < 200:
            rows = any_rows(chance, chance.randint(1, 9))
            if not is_small(rows):
                continue
            tried += 1
            ruler = ruled(*rows)
            found = {p: plain_numbers(rows, p) for p in [0, *SMALL]}
            for name in ["zero", "one", *ruler.names()]:
                number = found[0][name]
                expected = None if number is None else (number.numerator, number.denominator)
                self.assertEqual(ruler.as_fraction(name), expected)
                possible = ruler.possible(name)
                self.assertIs(type(possible), Chars)
                self.assertEqual(0 in possible, number is not None)
                for p in SMALL:
                    value = found[p][name]
                    self.assertEqual(ruler.value(name, p=p), value)
                    self.assertEqual(p in possible, value is not None)
            for _ in range(5):
                first, second = chance.choice(ruler.names()), chance.choice(["zero", "one", *ruler.names()])
                same = ruler.same(first, second)
                self.assertEqual(same, ruler.same(second, first))
                for p in [0, *SMALL]:
                    expected = found[p][first] is not None and found[p][first] == found[p][second]
                    self.assertEqual(p in same, expected)

    def test_large_prime_divisors(self):
        # 49779 is 3 * 3 * 5531.
        rows = built(49779).split("\n")
        name = rows[-1].split(" ")[1]
        ruler = ruled(*rows, f"quotient x one {name}")
        self.assertEqual(str(ruler.possible("x")), "all but 3 5531")
        self.assertEqual(str(ruler.same(name, "zero")), "primes 3 5531")
        self.assertEqual(divisors_of(49779), [3, 5531])
        self.assertEqual(ruler.as_fraction("x"), (1, 49779))

    def test_numbers_too_large_to_divide(self):
        # These numbers have millions of digits, but nothing is divided by them.
        names = ["sq" + letter for letter in "abcdefghijklmnopqrstuvwxyz"]
        rows = ["sum two one one", "product sqa two two"]
        rows += [f"product {second} {first} {first}" for first, second in zip(names, names[1:])]
        ruler = ruled(*rows, "quotient half one two", "product far half sqz")
        self.assertEqual(str(ruler.possible("far")), "all but 2")
        self.assertEqual(ruler.value("sqz", p=7), pow(2, 2 ** 26, 7))
        self.assertEqual(ruler.value("far", p=7), pow(2, 2 ** 26 - 1, 7))
        self.assertIsNone(ruler.value("far", p=2))

    def test_three_hundred_steps(self):
        rows = ["sum aa one one"]
        names = [first + second for first in "abcdefghijkl" for second in "abcdefghijklmnopqrstuvwxyz"][:300]
        rows += [f"sum {second} {first} {first}" for first, second in zip(names, names[1:])]
        ruler = ruled(*rows)
        self.assertEqual(len(ruler.names()), 300)
        self.assertEqual(ruler.as_fraction(names[-1]), (2 ** 300, 1))
        self.assertEqual(ruler.value(names[-1], p=LIMIT_PRIME), pow(2, 300, LIMIT_PRIME))
        self.assertEqual(len(ruler.shown(names[-1], p=3)), 6)
        rows = ["sum two one one", "quotient aa one two"]
        rows += [f"quotient {second} {first} two" for first, second in zip(names, names[1:250])]
        self.assertEqual(str(ruled(*rows).possible(names[249])), "all but 2")


class TestErrors(unittest.TestCase):
    def test_unknown_names(self):
        ruler = ruled(*ROWS)
        for name in ("x", "", "Two", "zeros", "two "):
            expected = ("UnknownName", {"name": name})
            self.assertEqual(raised(ruler.as_fraction, name), expected)
            self.assertEqual(raised(ruler.possible, name), expected)
            self.assertEqual(raised(ruler.value, name, p=3), expected)
            self.assertEqual(raised(ruler.shown, name, p=3), expected)
            self.assertEqual(raised(ruler.same, name, "other"), expected)
            self.assertEqual(raised(ruler.same, "two", name), expected)
            self.assertEqual(raised(ruler.same, "never", name), expected)

    def test_no_primes_come_first(self):
        ruler = ruled(*ROWS)
        for p in NO_PRIMES:
            for name in ("x", "zero", "one", "two", "never"):
                self.assertEqual(raised(ruler.value, name, p=p), ("BadCharacteristic", {"p": p}))
                self.assertEqual(raised(ruler.shown, name, p=p), ("BadCharacteristic", {"p": p}))

    def test_p_is_passed_by_keyword(self):
        ruler = ruled(*ROWS)
        self.assertRaises(TypeError, ruler.value, "two", 3)
        self.assertRaises(TypeError, ruler.shown, "two", 3)


class TestShown(unittest.TestCase):
    def test_a_sum_step_by_step(self):
        self.assertEqual(ruled("sum two one one").shown("two", p=3), [
            ("join", (1, 1, 2), (0, 1, 1), (1, 0, 1)), ("join", (1, 0, 2), (1, 0, 1), (0, 1, 0)),
            ("meet", (1, 1, 1), (1, 0, 2), (0, 1, 2)), ("meet", (1, 2, 0), (1, 1, 2), (0, 0, 1)),
            ("join", (1, 1, 1), (1, 1, 1), (1, 2, 0)), ("meet", (1, 0, 2), (1, 1, 1), (0, 1, 0)),
        ])

    def test_a_product_step_by_step(self):
        # 1 times 0 in the characteristic 2, where the line level is (0, 1, 1).
        self.assertEqual(ruled("product x one zero").shown("x", p=2), [
            ("join", (1, 1, 1), (1, 0, 1), (0, 1, 1)), ("meet", (1, 1, 0), (1, 1, 1), (0, 0, 1)),
            ("join", (1, 1, 0), (0, 0, 1), (1, 1, 0)), ("meet", (0, 0, 1), (1, 1, 0), (1, 0, 0)),
            ("join", (1, 1, 1), (0, 1, 1), (1, 0, 1)), ("meet", (1, 1, 0), (1, 1, 1), (0, 0, 1)),
            ("join", (1, 1, 0), (0, 0, 1), (1, 1, 0)), ("meet", (0, 0, 1), (1, 1, 0), (0, 1, 0)),
        ])

    def test_an_opposite_step_by_step(self):
        self.assertEqual(ruled("opposite x one").shown("x", p=3), [
            ("join", (1, 0, 2), (1, 0, 1), (0, 1, 0)), ("meet", (1, 1, 1), (1, 0, 2), (0, 1, 2)),
            ("join", (1, 2, 0), (1, 1, 1), (0, 0, 1)), ("meet", (1, 1, 0), (1, 2, 0), (0, 0, 1)),
            ("join", (1, 2, 1), (0, 1, 1), (1, 1, 0)), ("meet", (1, 0, 2), (1, 2, 1), (0, 1, 0)),
        ])

    def test_the_rules(self):
        self.assertEqual([word for word, *_ in ruled("quotient x one one").shown("x", p=5)],
                         ["join", "meet", "join", "meet", "join", "meet", "join", "meet"])
        chance = random.Random(2)
        seen = {"sum": 0, "product": 0, "quotient": 0, "opposite": 0, None: 0}
        for _ in range(250):
            rows = any_rows(chance, chance.randint(1, 8))
            ruler = ruled(*rows)
            for p in (2, 3, 5, 7, LIMIT_PRIME):
                numbers = plain_numbers(rows, p)
                for row in rows:
                    word, name, *rest = row.split(" ")
                    found = ruler.shown(name, p=p)
                    if numbers[name] is None:
                        self.assertIsNone(found)
                        seen[None] += 1
                        continue
                    values = [int(numbers[other]) for other in rest]
                    self.assertEqual(found, plain_shown(word, values, p))
                    # The last point is that of the number.
                    self.assertEqual(found[-1][1], normal((int(numbers[name]), 0, 1), p))
                    self.assertEqual({type(item) for item in found}, {tuple})
                    seen[word] += 1
        self.assertGreater(min(seen.values()), 100)

    def test_all_remainders(self):
        # Also where points fall together: each pair of numbers modulo small primes.
        rows = ["sum two one one", "sum three two one", "sum four two two"]
        names = ["zero", "one", "two", "three", "four"]
        for word in ("sum", "product", "quotient"):
            for a, first in enumerate(names):
                for b, second in enumerate(names):
                    ruler = ruled(*rows, f"{word} x {first} {second}")
                    for p in (2, 3, 5):
                        found = ruler.shown("x", p=p)
                        if word == "quotient" and b % p == 0:
                            self.assertIsNone(found)
                        else:
                            self.assertEqual(found, plain_shown(word, [a % p, b % p], p))
        for a, first in enumerate(names):
            for p in (2, 3, 5):
                self.assertEqual(ruled(*rows, f"opposite x {first}").shown("x", p=p), plain_shown("opposite", [a % p], p))

    def test_the_list_is_a_new_one(self):
        ruler = ruled("sum two one one")
        ruler.shown("two", p=3).clear()
        ruler.shown("one", p=3).append(1)
        self.assertEqual((len(ruler.shown("two", p=3)), ruler.shown("one", p=3)), (6, []))


class TestBuilt(unittest.TestCase):
    def check(self, n):
        text = built(n)
        self.assertIs(type(text), str)
        rows = text.split("\n")
        self.assertLessEqual(len(rows), 250)
        self.assertNotIn("quotient", {row.split(" ")[0] for row in rows})
        ruler = Ruler(text)
        last = ruler.names()[-1]
        self.assertEqual(ruler.as_fraction(last), (n, 1))
        self.assertEqual(ruler.possible(last), Chars.every())
        for p in (2, 3, 101, LIMIT_PRIME):
            self.assertEqual(ruler.value(last, p=p), n % p)

    def test_small_integers(self):
        for n in range(-70, 71):
            self.check(n)

    def test_thirty_digits(self):
        chance = random.Random(3)
        for n in (10 ** 30 - 1, 10 ** 29, 2 ** 99 - 1, 2 ** 99, 633825300114114700748351602687):
            self.check(n)
            self.check(-n)
        for _ in range(20):
            self.check(chance.randint(-10 ** 30 + 1, 10 ** 30 - 1))


class TestExamples(unittest.TestCase):
    def test_first(self):
        ruler = Ruler("sum two one one\nsum four two two\nquotient half one two\nopposite minus four")
        self.assertEqual(
            [ruler.as_fraction("half"), str(ruler.possible("half")), ruler.value("half", p=5), ruler.as_fraction("minus"),
             str(ruler.same("minus", "one")), ruler.shown("half", p=2)],
            [(1, 2), "all but 2", 3, (-4, 1), "primes 5", None])

    def test_second(self):
        ruler = Ruler(built(-6))
        self.assertEqual(
            [ruler.as_fraction(ruler.names()[-1]), Ruler("sum two one one").shown("two", p=3)[-1]],
            [(-6, 1), ("meet", (1, 0, 2), (1, 1, 1), (0, 1, 0))])


if __name__ == "__main__":
    unittest.main()
