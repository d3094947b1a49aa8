"""Tests of points 2.1 to 2.6, of 0.3 and 0.5 for sets, and of the examples of everyfield/chars.py."""

import types
import unittest

from everyfield.chars import Chars
from everyfield.errors import BadCharacteristic, BadText, FieldError
from everyfield.whole import is_zero

BIG = 9999999967
HUGE_PRIME = 2 ** 127 - 1
WORLD = [0, 2, 3, 5, 7, 11, BIG, HUGE_PRIME]
NO_PRIMES = [0, 1, -1, -2, -3, 4, 9, 91, 10000000000, -BIG, -10 ** 6000]

# Empty, single, several, neighbouring, overlapping and apart, of both kinds.
PRIMES = [(), (2,), (3,), (2, 3), (3, 5, 7), (2, 3, 5, 7, 11), (11, BIG), (BIG,)]
SETS = [Chars(endless, primes) for endless in (False, True) for primes in PRIMES]


def members(chars):
    """The members among the numbers of WORLD, worked out from the attributes alone."""
    return {p for p in WORLD if (p in set(chars.primes)) != chars.endless}


class TestMaking(unittest.TestCase):
    def test_attributes(self):
        for endless in (False, True):
            chars = Chars(endless, [7, 2, 5])
            self.assertIs(chars.endless, endless)
            self.assertEqual(chars.primes, (2, 5, 7))
            self.assertIs(type(chars.primes), tuple)
            self.assertEqual(Chars(endless, []).primes, ())
            self.assertEqual(Chars(endless, ()).primes, ())

    def test_any_order_and_repeatedly(self):
        for primes in ([5, 2, BIG, 2, 5, 5, 3], (3, BIG, 5, 2, 3)):
            for endless in (False, True):
                self.assertEqual(Chars(endless, primes).primes, (2, 3, 5, BIG))

    def test_the_first_that_is_no_prime(self):
        for wrong in NO_PRIMES:
            for primes in ([wrong], (wrong, 2), [2, 3, wrong], [5, wrong, 2, 4, 0, -1, 1]):
                for endless in (False, True):
                    with self.assertRaises(BadCharacteristic) as caught:
                        Chars(endless, primes)
                    self.assertEqual(caught.exception.p, wrong)

    def test_a_list_that_changes_later(self):
        primes = [5, 2, 2]
        chars = Chars(False, primes)
        self.assertEqual(primes, [5, 2, 2])
        primes.append(7)
        primes[0] = 4
        self.assertEqual(chars.primes, (2, 5))
        self.assertEqual(str(chars), "primes 2 5")


class TestNamedSets(unittest.TestCase):
    def parts(self, chars):
        self.assertIs(type(chars), Chars)
        return chars.endless, chars.primes

    def test_every_and_none(self):
        self.assertEqual(self.parts(Chars.every()), (True, ()))
        self.assertEqual(self.parts(Chars.none()), (False, ()))

    def test_only_and_but(self):
        self.assertEqual(self.parts(Chars.only(5, 2, 5)), (False, (2, 5)))
        self.assertEqual(self.parts(Chars.but(5, 2, 5)), (True, (2, 5)))
        self.assertEqual(self.parts(Chars.only()), (False, ()))
        self.assertEqual(self.parts(Chars.but()), (True, ()))

    def test_only_and_but_of_no_primes(self):
        for make in (Chars.only, Chars.but):
            for wrong in NO_PRIMES:
                with self.assertRaises(BadCharacteristic) as caught:
                    make(3, wrong, 4)
                self.assertEqual(caught.exception.p, wrong)

    def test_zero_of_and_unit_of(self):
        cases = [
            (1, ()), (-1, ()), (2, (2,)), (-360, (2, 3, 5)), (91, (7, 13)), (BIG, (BIG,)),
            (-2 * 4999999937, (2, 4999999937)),
        ]
        for n, primes in cases:
            self.assertEqual(self.parts(Chars.zero_of(n)), (False, primes))
            self.assertEqual(self.parts(Chars.unit_of(n)), (True, primes))
        self.assertEqual(self.parts(Chars.zero_of(0)), (True, ()))
        self.assertEqual(self.parts(Chars.unit_of(0)), (False, ()))

    def test_zero_of_and_unit_of_are_where_a_number_is_zero(self):
        for n in range(-30, 31):
            for p in [0, 2, 3, 5, 7, 29, 31]:
                self.assertIs(p in Chars.zero_of(n), is_zero(n, p))
                self.assertIs(p in Chars.unit_of(n), not is_zero(n, p))


class TestOperators(unittest.TestCase):
    def test_members(self):
        for chars in SETS:
            for p in WORLD:
                self.assertIs(p in chars, p in members(chars))
                self.assertIs(p not in chars, p not in members(chars))
        self.assertIs(0 in Chars.every(), True)
        self.assertIs(0 in Chars.none(), False)
        self.assertIs(0 in Chars.only(2), False)
        self.assertIs(HUGE_PRIME in Chars.but(2), True)

    def check(self, found, endless, expected):
        self.assertIs(type(found), Chars)
        self.assertIs(found.endless, endless)
        self.assertEqual(members(found), expected)
        self.assertEqual(list(found.primes), sorted(set(found.primes)))

    def test_pairs(self):
        for first in SETS:
            for second in SETS:
                mine, others = members(first), members(second)
                self.check(first & second, first.endless and second.endless, mine & others)
                self.check(first | second, first.endless or second.endless, mine | others)
                self.check(first - second, first.endless and not second.endless, mine - others)

    def test_opposite(self):
        for chars in SETS:
            self.check(~chars, not chars.endless, set(WORLD) - members(chars))
            self.assertEqual(~~chars, chars)

    def test_one_of_each_mix(self):
        few, most = Chars.only(2, 3), Chars.but(3, 5)
        joined = [few & most, most & few, few | most, most | few, few - most, most - few]
        texts = ["primes 2", "primes 2", "all but 5", "all but 5", "primes 3", "all but 2 3 5"]
        self.assertEqual([str(chars) for chars in joined], texts)
        others = [few & Chars.only(3, 5), most & Chars.but(2), few | Chars.only(5), most | Chars.but(5, 7)]
        self.assertEqual([str(chars) for chars in others], ["primes 3", "all but 2 3 5", "primes 2 3 5", "all but 5"])
        self.assertEqual([str(few - Chars.only(3)), str(most - Chars.but(3, 7))], ["primes 2", "primes 7"])

    def test_questions_are_joined(self):
        # 6 is 0 and 10 is not: only in the characteristic 3.
        self.assertEqual(str(Chars.zero_of(6) & Chars.unit_of(10)), "primes 3")

    def test_operators_change_nothing(self):
        first, second = Chars.only(3, 2), Chars.but(5, 3)
        first & second, first | second, first - second, ~first, first == second, bool(first), str(first)
        self.assertEqual((first.endless, first.primes), (False, (2, 3)))
        self.assertEqual((second.endless, second.primes), (True, (3, 5)))

    def test_equality(self):
        for at, first in enumerate(SETS):
            for other, second in enumerate(SETS):
                self.assertIs(first == second, at == other)
                self.assertIs(first != second, at != other)
        self.assertIs(Chars(False, [5, 2, 2]) == Chars.only(2, 5), True)
        self.assertIs(Chars(True, (5, 2)) == Chars.but(2, 5), True)

    def test_no_value_of_another_kind_is_equal(self):
        class Likeness:
            endless, primes = False, (2,)

        for other in [(2,), [2], {2}, "primes 2", 2, None, True, (False, (2,)), Likeness(), object()]:
            self.assertIs(Chars.only(2) == other, False)
            self.assertIs(other == Chars.only(2), False)
            self.assertIs(Chars.only(2) != other, True)
        for other in [False, 0, None, (), [], ""]:
            self.assertIs(Chars.none() == other, False)
        self.assertIs(Chars.every() == True, False)  # noqa: E712

    def test_truth(self):
        self.assertIs(bool(Chars.none()), False)
        self.assertIs(bool(Chars.only(2) - Chars.only(2)), False)
        for chars in [Chars.every(), Chars.but(2, 3), Chars.only(2), Chars.only(BIG)]:
            self.assertIs(bool(chars), True)


class TestFirstPrimes(unittest.TestCase):
    def test_least(self):
        self.assertEqual(Chars.every().least(), 2)
        self.assertEqual(Chars.but(2, 3, 7).least(), 5)
        self.assertEqual(Chars.only(11, 7, BIG).least(), 7)

    def test_least_with_its_bound(self):
        self.assertEqual(Chars.only(997).least(), 997)
        self.assertIsNone(Chars.only(1009).least())
        self.assertEqual(Chars.only(1009).least(most=1009), 1009)
        self.assertIsNone(Chars.only(1009).least(most=1008))
        self.assertIsNone(Chars.only(BIG).least(most=100000))
        self.assertEqual(Chars.only(99991).least(most=100000), 99991)
        self.assertEqual(Chars.every().least(most=2), 2)
        self.assertIsNone(Chars.but(2).least(most=2))
        self.assertEqual(Chars.but(2).least(most=3), 3)
        self.assertIsNone(Chars.but(2, 3).least(most=4))
        self.assertIsNone(Chars.only(3).least(most=2))

    def test_least_that_finds_none(self):
        self.assertIsNone(Chars.none().least())
        self.assertIsNone(Chars.none().least(most=100000))

    def test_least_takes_its_bound_by_keyword(self):
        self.assertEqual(Chars.least.__kwdefaults__, {"most": 1000})
        with self.assertRaises(TypeError):
            Chars.every().least(5)

    def test_upto(self):
        self.assertEqual(list(Chars.every().upto(30)), [2, 3, 5, 7, 11, 13, 17, 19, 23, 29])
        self.assertEqual(list(Chars.every().upto(29)), [2, 3, 5, 7, 11, 13, 17, 19, 23, 29])
        self.assertEqual(list(Chars.every().upto(28)), [2, 3, 5, 7, 11, 13, 17, 19, 23])
        self.assertEqual(list(Chars.but(3, 7, BIG).upto(13)), [2, 5, 11, 13])
        self.assertEqual(list(Chars.but(2).upto(2)), [])
        self.assertEqual(list(Chars.every().upto(2)), [2])
        self.assertEqual(list(Chars.only(7, 2, 5).upto(5)), [2, 5])
        self.assertEqual(list(Chars.only(7, 2, 5).upto(4)), [2])
        self.assertEqual(list(Chars.only(BIG).upto(100000)), [])
        self.assertEqual(list(Chars.none().upto(100)), [])

    def test_upto_its_greatest_bound(self):
        found = list(Chars.every().upto(100000))
        self.assertEqual((len(found), found[-1]), (9592, 99991))

    def test_upto_is_a_generator(self):
        for chars in (Chars.every(), Chars.only(2, 3)):
            self.assertIsInstance(chars.upto(10), types.GeneratorType)
        first = Chars.but(2).upto(100000)
        self.assertEqual([next(first), next(first)], [3, 5])


class TestTexts(unittest.TestCase):
    def test_str(self):
        cases = [
            (Chars.none(), "primes"), (Chars.every(), "all but"), (Chars.only(5, 2), "primes 2 5"),
            (Chars.but(11, 3), "all but 3 11"), (Chars.only(BIG), "primes 9999999967"),
        ]
        for chars, text in cases:
            self.assertEqual(str(chars), text)

    def test_read_gives_back_what_was_written(self):
        for chars in SETS:
            self.assertEqual(Chars.read(str(chars)), chars)

    def test_read_in_any_order_and_repeatedly(self):
        self.assertEqual(Chars.read("primes 5 2 5 3 2"), Chars.only(2, 3, 5))
        self.assertEqual(Chars.read("all but 9999999967 2 2"), Chars.but(2, BIG))

    def test_bad_texts(self):
        cases = [
            ("", 0), (" ", 0), ("prime", 0), ("Primes 2", 0), ("2 3", 0), ("but 2", 0), (" primes 2", 0),
            ("primes\n", 0), ("primes\t2", 0), ("x 02", 0),
            ("all", 1), ("all 2", 1), ("all ", 1), ("all  but", 1), ("all but2", 1), ("all all", 1),
            ("all primes 2", 1),
            ("primes ", 1), ("primes  2", 1), ("primes but", 1), ("primes all but", 1), ("primes primes", 1),
            ("all but ", 2), ("all but but", 2), ("all but  2", 2), ("all but all", 2),
            ("primes 02", 1), ("primes 00", 1), ("primes +2", 1), ("primes -2", 1), ("primes 2.", 1), ("primes 2,3", 1),
            ("primes 2\n", 1), ("primes 2\t3", 1), ("primes 1_0", 1), ("primes 0x2", 1), ("primes two", 1),
            ("primes 10000000019", 1), ("primes 00000000002", 1), ("primes 2 3 99999999999", 3),
            ("primes 2 3 ", 3), ("primes 2  3", 2), ("all but 2 3 ", 4), ("all but 2  3", 3),
            ("all but 2 x 03", 3), ("all but 2 03 x", 3), ("all but -2", 2), ("all but 12345678901", 2),
            ("primes \u0662", 1), ("primes \u00b2", 1), ("primes \uff12", 1), ("primes\u00a02", 0),
        ]
        for text, at in cases:
            with self.assertRaises(BadText, msg=text) as caught:
                Chars.read(text)
            self.assertEqual(caught.exception.at, at, text)

    def test_numbers_that_are_no_primes(self):
        cases = [
            ("primes 0", 0), ("all but 0", 0), ("primes 1", 1), ("primes 2 9 4", 9), ("all but 3 4 0", 4),
            ("primes 9999999999", 9999999999), ("primes 3 0 2", 0),
        ]
        for text, p in cases:
            with self.assertRaises(BadCharacteristic, msg=text) as caught:
                Chars.read(text)
            self.assertEqual(caught.exception.p, p, text)

    def test_the_form_is_checked_before_the_numbers(self):
        for text in ["primes 4 x", "all but 4 ", "primes 0 02"]:
            with self.assertRaises(FieldError) as caught:
                Chars.read(text)
            self.assertIs(type(caught.exception), BadText)


class TestExamples(unittest.TestCase):
    def test_of_the_interface(self):
        texts = [str(Chars.zero_of(12)), str(Chars.unit_of(12)), str(Chars.zero_of(0)), str(Chars.none())]
        self.assertEqual(texts, ["primes 2 3", "all but 2 3", "all but", "primes"])
        odd = Chars.but(2)
        found = [0 in odd, 2 in odd, str(odd & Chars.only(2, 5)), str(odd | Chars.only(2))]
        self.assertEqual(found, [True, False, "primes 5", "all but"])
        self.assertEqual([odd.least(), list(odd.upto(7))], [3, [3, 5, 7]])


if __name__ == "__main__":
    unittest.main()
