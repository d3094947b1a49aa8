"""Tests of points 13.1 to 13.5, of 0.5 and 0.6 for books, and of the example of everyfield/reports.py."""

import random
import unittest

from plain import LIMIT_PRIME, raised

from everyfield.chars import Chars
from everyfield.reports import MOST_PRIME, Book

SMALL = [2, 3, 5, 7]
# Sets that name no other primes than the small ones are alike for 0 and 11.
MODEL = [0, 2, 3, 5, 7, 11]


def any_set(chance):
    return Chars(chance.random() < 0.5, [p for p in SMALL if chance.random() < 0.5])


def plain_fits(reports):
    """The characteristics of the model that fit reports (found, holds, name)."""
    return [p for p in MODEL if all((p in found) == holds for found, holds, *_ in reports)]


def plain_clash(reports):
    """What point 13.1 says of the clash."""
    left = list(range(len(reports)))
    for at in range(len(reports)):
        if not plain_fits([reports[k] for k in left if k != at]):
            left.remove(at)
    return left


def state(book):
    return book.reports(), book.fits(), book.needless()


def book_of(*reports):
    book = Book()
    for found, holds, *name in reports:
        if name:
            book.tell(found, holds, name=name[0])
        else:
            book.tell(found, holds)
    return book


class TestTell(unittest.TestCase):
    def test_without_reports(self):
        book = Book()
        self.assertEqual((book.fits(), book.reports(), book.needless()), (Chars.every(), [], []))
        self.assertEqual([book.verdict(chars) for chars in (Chars.every(), Chars.none(), Chars.but(2))],
                         ["sure", "never", "open"])

    def test_reports_with_and_without_names(self):
        book = Book()
        self.assertIsNone(book.tell(Chars.only(2, 3, 5), True))
        self.assertIsNone(book.tell(Chars.only(5), False, name="five"))
        self.assertIsNone(book.tell(Chars.but(7), True, name=""))
        self.assertEqual(book.reports(), [(Chars.only(2, 3, 5), True, ""), (Chars.only(5), False, "five"),
                                          (Chars.but(7), True, "")])
        self.assertEqual({type(report) for report in book.reports()}, {tuple})
        self.assertEqual(str(book.fits()), "primes 2 3")
        self.assertIs(type(book.fits()), Chars)

    def test_no_report_has_the_empty_name(self):
        book = book_of((Chars.but(2), True, ""), (Chars.but(3), True), (Chars.but(5), True, ""))
        self.assertEqual(len(book.reports()), 3)
        self.assertEqual(raised(book.named, ""), ("UnknownName", {"name": ""}))
        self.assertEqual(raised(Book().named, ""), ("UnknownName", {"name": ""}))

    def test_the_same_name_again(self):
        book = book_of((Chars.but(2), True, "a"), (Chars.but(3), True, "b"))
        before = state(book)
        for name in ("a", "b"):
            self.assertEqual(raised(book.tell, Chars.every(), True, name=name), ("NameTaken", {"name": name}))
            # Ahead of the contradiction.
            self.assertEqual(raised(book.tell, Chars.none(), True, name=name), ("NameTaken", {"name": name}))
        self.assertEqual(state(book), before)
        self.assertIsNone(raised(book.tell, Chars.every(), True, name="A"))
        book.take_back()
        book.take_back()
        self.assertIsNone(raised(book.tell, Chars.every(), True, name="b"))

    def test_contradictions(self):
        book = Book()
        self.assertEqual(raised(book.tell, Chars.none(), True), ("Contradiction", {"clash": [0]}))
        self.assertEqual(raised(book.tell, Chars.every(), False), ("Contradiction", {"clash": [0]}))
        book = book_of((Chars.only(2, 3), True), (Chars.every(), True), (Chars.but(2), True, "odd"))
        before = state(book)
        self.assertEqual(raised(book.tell, Chars.only(3), False), ("Contradiction", {"clash": [0, 2, 3]}))
        self.assertEqual(raised(book.tell, Chars.only(2), True, name="x"), ("Contradiction", {"clash": [2, 3]}))
        self.assertEqual(raised(book.tell, Chars.only(5), True, name="x"), ("Contradiction", {"clash": [0, 3]}))
        self.assertEqual(raised(book.tell, Chars.none(), True, name="x"), ("Contradiction", {"clash": [3]}))
        self.assertEqual(state(book), before)
        self.assertEqual(raised(book.named, "x"), ("UnknownName", {"name": "x"}))

    def test_the_clash_leaves_out_the_first_ones(self):
        # Each of the reports 0 and 1 clashes with the new one; the later one remains.
        book = book_of((Chars.only(2), True), (Chars.only(2), True))
        self.assertEqual(raised(book.tell, Chars.only(2), False), ("Contradiction", {"clash": [1, 2]}))

    def test_by_the_model(self):
        chance = random.Random(1)
        clashes = set()
        for _ in range(150):
            book, told = Book(), []
            for at in range(9):
                report = (any_set(chance), chance.random() < 0.5, chance.choice(["", "", f"n{at}"]))
                if plain_fits([*told, report]):
                    book.tell(report[0], report[1], name=report[2])
                    told.append(report)
                else:
                    clash = plain_clash([*told, report])
                    before = state(book)
                    self.assertEqual(raised(book.tell, report[0], report[1], name=report[2]),
                                     ("Contradiction", {"clash": clash}))
                    self.assertEqual(state(book), before)
                    clashes.add(len(clash))
                self.assertEqual(book.reports(), told)
                self.assertEqual([p for p in MODEL if p in book.fits()], plain_fits(told))
                expected = [k for k in range(len(told)) if plain_fits(told[:k] + told[k + 1:]) == plain_fits(told)]
                self.assertEqual(book.needless(), expected)
        self.assertGreater(len(clashes), 3)

    def test_holds_and_name_are_passed_as_written(self):
        self.assertRaises(TypeError, Book().tell, Chars.every(), True, "name")


class TestAsked(unittest.TestCase):
    def test_the_lists_are_new_ones(self):
        book = book_of((Chars.but(2), True, "a"), (Chars.but(2), True))
        book.reports().clear()
        book.reports().append((Chars.none(), True, "b"))
        book.needless().append(7)
        self.assertEqual(book.reports(), [(Chars.but(2), True, "a"), (Chars.but(2), True, "")])
        self.assertEqual(book.needless(), [0, 1])

    def test_a_list_that_was_told_may_change(self):
        primes = [2, 3]
        book = book_of((Chars(False, primes), True, "a"))
        primes.clear()
        self.assertEqual(str(book.fits()), "primes 2 3")
        error = raised(book.tell, Chars.none(), True)[1]
        error["clash"].append(9)
        self.assertEqual(raised(book.tell, Chars.none(), True), ("Contradiction", {"clash": [1]}))

    def test_named(self):
        book = book_of((Chars.but(2), True), (Chars.but(3), True, "b"), (Chars.but(5), True, "a"), (Chars.but(7), True))
        self.assertEqual((book.named("a"), book.named("b")), (2, 1))
        for name in ("c", "A", "", "ab", " a"):
            self.assertEqual(raised(book.named, name), ("UnknownName", {"name": name}))

    def test_verdict(self):
        book = book_of((Chars.only(2, 3, 5), True), (Chars.only(5), False))
        for found, expected in [
            (Chars.only(2, 3), "sure"), (Chars.only(2, 3, 5, 7), "sure"), (Chars.every(), "sure"), (Chars.but(5), "sure"),
            (Chars.only(5), "never"), (Chars.none(), "never"), (Chars.but(2, 3), "never"), (Chars.only(2), "open"),
            (Chars.but(2), "open"), (Chars.only(3, 7), "open"),
        ]:
            self.assertEqual(book.verdict(found), expected)
        book = book_of((Chars.but(2), True))
        for found, expected in [(Chars.but(2), "sure"), (Chars.only(2), "never"), (Chars.only(2, 3), "open"), (Chars.but(3), "open")]:
            self.assertEqual(book.verdict(found), expected)

    def test_needless(self):
        book = book_of((Chars.but(2), True), (Chars.only(2), False), (Chars.every(), True), (Chars.but(3), True))
        self.assertEqual(book.needless(), [0, 1, 2])
        book = book_of((Chars.only(2, 3), True), (Chars.only(3, 5), True), (Chars.only(3, 7), True))
        self.assertEqual(book.needless(), [0, 1, 2])
        self.assertEqual(str(book.fits()), "primes 3")
        self.assertEqual(book_of((Chars.only(2), True)).needless(), [])
        self.assertEqual(book_of((Chars.every(), True)).needless(), [0])


class TestBest(unittest.TestCase):
    def test_values(self):
        book = Book()
        self.assertIsNone(book.best())
        self.assertIsNone(book_of((Chars.only(2), True)).best(most=2))
        self.assertEqual(book.best(Chars.every()), 0)
        # Of 0, 2, 3, 5 and 7, these questions leave 4, 3, 3 and 5.
        questions = [Chars.only(2), Chars.only(2, 3), Chars.but(5, 7), Chars.none()]
        self.assertEqual(book.best(*questions, most=7), 1)
        self.assertEqual(book.best(*questions[::-1], most=7), 1)
        self.assertEqual(book.best(questions[0], questions[3], most=7), 0)
        self.assertEqual(book.best(questions[3], questions[0], most=7), 1)

    def test_equal_ones(self):
        book = book_of((Chars.only(2, 3, 5, 7), True))
        self.assertEqual(book.best(Chars.only(2, 3), Chars.only(5, 7), Chars.but(2, 7)), 0)
        self.assertEqual(book.best(Chars.only(2), Chars.only(5, 7), Chars.only(2, 3)), 1)
        self.assertEqual(book.best(Chars.none(), Chars.every()), 0)

    def test_the_count_of_0(self):
        # With most = 2, only 0 and 2 are counted.
        book = Book()
        self.assertEqual(book.best(Chars.every(), Chars.only(2), most=2), 1)
        self.assertEqual(book.best(Chars.but(3), Chars.but(2), most=2), 1)
        self.assertEqual(book.best(Chars.only(3), Chars.only(2), most=3), 0)
        self.assertEqual(book_of((Chars.only(2, 3), True)).best(Chars.only(3), Chars.only(2), most=2), 0)
        # 0 is in the question, and so is 3; 2 and 5 are not.
        self.assertEqual(book.best(Chars.none(), Chars.but(2, 5), most=5), 1)

    def test_the_limits(self):
        self.assertEqual(MOST_PRIME, 1000)
        # 997 is the last prime up to the default; 1009 is not counted.
        book = book_of((Chars.only(991, 997, 1009, 1013), True))
        self.assertEqual(book.best(Chars.only(1009), Chars.only(997)), 1)
        self.assertEqual(book.best(Chars.only(1009, 1013), Chars.only(997)), 1)
        self.assertEqual(book.best(Chars.only(991), Chars.only(997, 1009), most=1013), 1)
        self.assertEqual(book.best(Chars.only(991), Chars.only(997, 1009), most=1008), 0)
        self.assertEqual(book.best(Chars.only(991), Chars.only(997, 1009), most=5000), 1)
        self.assertEqual(Book().best(Chars.none(), Chars.only(4999), most=4999), 1)
        self.assertEqual(Book().best(Chars.none(), Chars.only(4999), most=4998), 0)
        self.assertEqual(book_of((Chars.only(LIMIT_PRIME), True)).best(Chars.none(), Chars.only(LIMIT_PRIME)), 0)

    def test_by_the_counts(self):
        chance = random.Random(2)
        for _ in range(100):
            book = book_of((Chars.only(*SMALL) if chance.random() < 0.5 else Chars.but(3), True))
            questions = [any_set(chance) for _ in range(chance.randint(1, 4))]
            most = chance.choice([2, 3, 5, 11])
            members = [p for p in MODEL if p <= most and p in book.fits()]
            parts = [max(sum(p in q for p in members), sum(p not in q for p in members)) for q in questions]
            self.assertEqual(book.best(*questions, most=most), parts.index(min(parts)))

    def test_the_book_does_not_change(self):
        book = book_of((Chars.but(2), True, "a"))
        before = state(book)
        book.best(Chars.only(3), most=5)
        book.verdict(Chars.only(3))
        self.assertEqual(state(book), before)


class TestTakeBack(unittest.TestCase):
    def test_down_to_no_report(self):
        book = book_of((Chars.but(2), True, "a"), (Chars.but(3), True), (Chars.only(5), True, "c"))
        seen = []
        for _ in range(3):
            seen.append(str(book.fits()))
            self.assertIsNone(book.take_back())
        self.assertEqual(seen, ["primes 5", "all but 2 3", "all but 2"])
        self.assertEqual((book.reports(), book.fits()), ([], Chars.every()))
        self.assertEqual(raised(book.take_back), ("NothingToUndo", {}))
        self.assertEqual(raised(Book().take_back), ("NothingToUndo", {}))
        self.assertEqual(raised(book.named, "a"), ("UnknownName", {"name": "a"}))
        self.assertIsNone(book.tell(Chars.only(3), True, name="a"))
        self.assertEqual(book.named("a"), 0)

    def test_books_are_apart(self):
        first, second = Book(), Book()
        first.tell(Chars.only(2), True)
        self.assertEqual((first.fits(), second.fits()), (Chars.only(2), Chars.every()))


class TestExample(unittest.TestCase):
    def test_it(self):
        book = Book()
        book.tell(Chars.zero_of(30), True, name="thirty")
        book.tell(Chars.unit_of(6), False)
        self.assertEqual(
            [str(book.fits()), book.verdict(Chars.only(2, 3, 7)), book.needless(), book.named("thirty"),
             book.best(Chars.only(5), Chars.only(2))],
            ["primes 2 3", "sure", [0], 0, 1])


if __name__ == "__main__":
    unittest.main()
