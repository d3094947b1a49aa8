"""Tests of points 11.1 to 11.8, of 0.2 and 0.4 to 0.7 for drawings, and of the examples of everyfield/drawings.py."""

import random
import unittest
from itertools import product

from plain import LIMIT_PRIME, NO_CHARACTERISTICS, PowerField, is_zero, raised

from everyfield.chars import Chars
from everyfield.drawings import Drawing
from everyfield.many import Many

QUADRANGLE = [
    "point A 1 0 0", "point B 0 1 0", "point C 0 0 1", "point D 1 1 1", "join a A B", "join b C D", "join c A C",
    "join d B D", "join e A D", "join f B C", "meet P a b", "meet Q c d",
]
DESARGUES = [
    "point O 0 0 1", "point A 1 0 0", "point B 0 1 0", "point C 1 1 1", "on P A O", "on Q B O", "on R C O",
    "join a A B", "join b P Q", "meet X a b", "join c B C", "join d Q R", "meet Y c d", "join e A C", "join f P R",
    "meet Z e f",
]
PAPPUS = [
    "point A 1 0 0", "point B 0 1 0", "on C A B", "point D 0 0 1", "point E 1 1 1", "on F D E", "join a A E",
    "join b B D", "meet X a b", "join c A F", "join d C D", "meet Y c d", "join e B F", "join f C E", "meet Z e f",
]

SQUARE = [
    "point Z 0 0 1", "point E 1 0 1", "point T 0 1 1", "point U 0 1 0", "point F 1 0 0", "on X Z F", "join l E T",
    "join w U F", "meet M l w", "join n X M", "join u Z U", "meet P n u", "join t T X", "meet N t w", "join s P N",
    "join a Z E", "meet Y s a",
]


def drawn(*rows):
    return Drawing("\n".join(rows))


class WholeNumbers:
    """The numbers of a test in the characteristic 0."""

    def plus(self, a, b):
        return a + b

    def times(self, a, b):
        return a * b

    def number(self, n):
        return n

    def any(self, chance):
        return chance.randint(-10 ** 9, 10 ** 9)


class Remainders:
    """The remainders modulo a prime."""

    def __init__(self, p):
        self.p = p

    def plus(self, a, b):
        return (a + b) % self.p

    def times(self, a, b):
        return a * b % self.p

    def number(self, n):
        return n % self.p

    def any(self, chance):
        return chance.randrange(self.p)


class Powers:
    """The numbers of a power field."""

    def __init__(self, p, k):
        self.field = PowerField(p, k)
        self.plus, self.times = self.field.plus, self.field.times

    def number(self, n):
        return n % self.field.p

    def any(self, chance):
        return chance.randrange(self.field.size)


LARGE = {0: WholeNumbers(), 2: Powers(2, 9), 3: Powers(3, 6), 5: Powers(5, 4), 10007: Remainders(10007)}


def plain_cross(field, first, second):
    def less(a, b, c, d):
        return field.plus(field.times(a, b), field.times(field.number(-1), field.times(c, d)))
    (a, b, c), (d, e, f) = first, second
    return less(b, f, c, e), less(c, d, a, f), less(a, e, b, d)


def plain_dot(field, first, second):
    found = field.number(0)
    for m, n in zip(first, second):
        found = field.plus(found, field.times(m, n))
    return found


def plain_triples(rows, choice, field):
    """The triples by names, or None if one of them is 0."""
    found = {}
    for row in rows:
        word, name, *rest = row.split(" ")
        if word == "point":
            triple = tuple(field.number(int(n)) for n in rest)
        elif word == "free":
            triple = (choice[name + "1"], choice[name + "2"], field.number(1))
        elif word == "on":
            triple = tuple(field.plus(m, field.times(n, choice[name + "1"]))
                           for m, n in zip(found[rest[0]], found[rest[1]]))
        else:
            triple = plain_cross(field, found[rest[0]], found[rest[1]])
        if not any(triple):
            return None
        found[name] = triple
    return found


def plain_holds(rows, sentence, choice, field):
    triples = plain_triples(rows, choice, field)
    if triples is None:
        return None
    word, *names = sentence.split(" ")
    chosen = [triples[name] for name in names]
    if word == "same":
        return not any(plain_cross(field, *chosen))
    if word == "on":
        return plain_dot(field, *chosen) == 0
    return plain_dot(field, plain_cross(field, *chosen[:2]), chosen[2]) == 0


def any_drawing(chance, size=8):
    """Rows of a drawing in which many points and lines fall together somewhere; the kinds of its names come second."""
    rows, kinds, unknowns = [], {}, 0
    for at in range(size):
        name = chance.choice(["P", "q", "Rs", "tU"]) + "abcdefghijkl"[at]
        points = [other for other in kinds if kinds[other] == "point"]
        lines = [other for other in kinds if kinds[other] == "line"]
        words = ["point"]
        if unknowns < 4:
            words += ["free"]
        if len(points) > 1:
            words += ["join"] * 3 + ["on"] * (unknowns < 5)
        if len(lines) > 1:
            words += ["meet"] * 3
        word = chance.choice(words)
        kinds[name] = "line" if word == "join" else "point"
        unknowns += {"free": 2, "on": 1}.get(word, 0)
        rest = []
        if word == "point":
            rest = [str(chance.choice([0, 0, 1, 1, -1, 2, 3, 6, chance.randint(-9, 9)])) for _ in range(3)]
        elif word != "free":
            rest = [chance.choice(lines if word == "meet" else points) for _ in range(2)]
        rows.append(" ".join([word, name, *rest]))
    return rows, kinds


def any_sentence(chance, kinds):
    points = [name for name in kinds if kinds[name] == "point"]
    lines = [name for name in kinds if kinds[name] == "line"]
    word = chance.choice(["same", "line", "through", "on"])
    if word == "on" and lines:
        return f"on {chance.choice(points)} {chance.choice(lines)}"
    if word == "through" and lines:
        return " ".join(["through"] + [chance.choice(lines) for _ in range(3)])
    if word == "line":
        return " ".join(["line"] + [chance.choice(points) for _ in range(3)])
    some = chance.choice([points, lines]) or points
    return f"same {chance.choice(some)} {chance.choice(some)}"


class TestTexts(unittest.TestCase):
    def test_each_kind_of_line(self):
        drawing = drawn("point A 1 -20 300", "free Bb", "join c A Bb", "free D", "join e A D", "meet F c e", "on G D A")
        texts = {name: [str(many) for many in drawing.triple(name)] for name in drawing.names()}
        self.assertEqual(texts["A"], ["1", "-20", "300"])
        self.assertEqual(texts["Bb"], ["1 Bb1", "1 Bb2", "1"])
        self.assertEqual(texts["c"], ["-20 + -300 Bb2", "-1 + 300 Bb1", "20 Bb1 + 1 Bb2"])
        self.assertEqual(texts["G"], ["1 D1 + 1 G1", "1 D2 + -20 G1", "1 + 300 G1"])
        self.assertEqual(drawing.names(), ["A", "Bb", "c", "D", "e", "F", "G"])
        self.assertEqual(drawing.unknowns(), ["Bb1", "Bb2", "D1", "D2", "G1"])
        a, b = drawing.triple("c"), drawing.triple("e")
        self.assertEqual(drawing.triple("F"),
                         (a[1] * b[2] - a[2] * b[1], a[2] * b[0] - a[0] * b[2], a[0] * b[1] - a[1] * b[0]))

    def test_triples(self):
        drawing = drawn(*QUADRANGLE)
        for name in drawing.names():
            found = drawing.triple(name)
            self.assertEqual((type(found), len(found), {type(many) for many in found}), (tuple, 3, {Many}))
        self.assertIs(type(drawn("point A 1 0 0", "free B", "on C A B").triple("C")), tuple)
        self.assertEqual([str(many) for many in drawing.triple("P")], ["-1", "-1", "0"])
        self.assertEqual([str(many) for many in drawing.triple("a")], ["0", "0", "1"])

    def test_unknown_names(self):
        drawing = drawn("point A 1 0 0", "free B")
        for name in ("C", "a", "", "B1", "AB", " A"):
            self.assertEqual(raised(drawing.triple, name), ("UnknownName", {"name": name}))

    def test_names(self):
        for name in ("A", "z", "abcdefgh", "ABCDEFGH", "point", "same", "on"):
            self.assertEqual(drawn(f"point {name} 0 0 1").names(), [name])
        for name in ("", "A1", "1", "abcdefghi", "A_b", "A-", "\u00e4", "\u0391", "A\n", "A\t"):
            self.assertEqual(raised(drawn, f"point {name} 0 0 1"), ("BadStep", {"at": 0}), name)

    def test_numbers(self):
        for word in ("0", "7", "-7", "1000", "-1000", "999"):
            self.assertEqual(str(drawn(f"point A {word} 0 0").triple("A")[0]), word)
        for word in ("", "-0", "+1", "01", "-01", "00", "1001", "-1001", "1000000000000", "1.0", "1e2", "x", "--1", "-",
                     "\u0661", "1_0", "9" * 31, "9" * 5000):
            for at in range(3):
                words = ["0", "1", "2"]
                words[at] = word
                self.assertEqual(raised(drawn, "free B", "point A " + " ".join(words)), ("BadStep", {"at": 1}), word)

    def test_no_lines_of_a_text(self):
        bad = [
            "", " ", "A", "point", "point D", "point D 1", "point D 1 2", "point D 1 2 3 4", "point D 1 2 3 ", "Point D 1 2 3",
            " point D 1 2 3", "point  D 1 2 3", "point D 1  2 3", "point A 1 2 3", "point a 1 2 3", "free", "free A", "free D E",
            "free D ", "free a", "free D1", "join", "join d", "join d A", "join d A B C", "join d A B ", "join d A D",
            "join d d A", "join d A a", "join d a b", "join a A B", "join d A x", "meet", "meet D", "meet D a", "meet D a b a",
            "meet D A B", "meet D a A", "meet D A a", "meet A a b", "meet D a x", "meet D a D", "on D A", "on D A B C",
            "on D A a", "on D a A", "on D a b", "on D A D", "on A A B", "on D A x", "line D A B", "same A B", "sum D A B",
            "point d\t1 0 0", "free D\r",
        ]
        head = ["point A 1 0 0", "point B 0 1 0", "join a A B", "free C", "join b A C"]
        self.assertIsNone(raised(drawn, *head))
        for row in bad:
            self.assertEqual(raised(drawn, *head, row), ("BadStep", {"at": 5}), row)
            self.assertEqual(raised(drawn, *head, row, "free X", row), ("BadStep", {"at": 5}), row)

    def test_the_first_wrong_line(self):
        self.assertEqual(raised(Drawing, ""), ("BadStep", {"at": 0}))
        self.assertEqual(raised(Drawing, "\n"), ("BadStep", {"at": 0}))
        self.assertEqual(raised(Drawing, "free A\n"), ("BadStep", {"at": 1}))
        self.assertEqual(raised(Drawing, "\nfree A"), ("BadStep", {"at": 0}))
        self.assertEqual(raised(Drawing, "free A\n\nfree B"), ("BadStep", {"at": 1}))
        self.assertEqual(raised(Drawing, "free A\nfree A\nfree"), ("BadStep", {"at": 1}))
        # A name that a later line gives.
        self.assertEqual(raised(Drawing, "free A\njoin a A B\nfree B"), ("BadStep", {"at": 1}))

    def test_a_point_twice_in_a_line(self):
        drawing = drawn("free A", "join a A A", "point B 1 0 0", "on C B B")
        self.assertEqual([str(many) for many in drawing.triple("a")], ["0", "0", "0"])
        self.assertEqual(drawing.possible(), Chars.none())
        self.assertEqual([str(many) for many in drawing.triple("C")], ["1 + 1 C1", "0", "0"])

    def test_the_lists_are_new_ones(self):
        drawing = drawn("free A", "free B")
        for call in (drawing.names, drawing.unknowns):
            found = call()
            found.append("X")
            self.assertNotEqual(call(), found)


class TestPossible(unittest.TestCase):
    def test_values(self):
        for rows, expected in [
            (["point A 0 0 0"], "primes"),
            (["point A 6 0 10"], "all but 2"),
            (["point A 6 0 10", "point B 0 15 0"], "all but 2 3 5"),
            (["free A", "free B", "join a A B"], "all but"),
            (["point A 1 1 0", "point B 1 -1 0", "join a A B"], "all but 2"),
            (["point A 1 1 0", "point B 1 1 0", "join a A B"], "primes"),
            (["point A 1 0 0", "point B 1 0 0", "on C A B"], "all but"),
            (["point A 6 0 0", "point B 10 0 0", "on C A B"], "all but 2 3 5"),
            (["point A 997 0 0", "point B 0 991 0", "join a A B"], "all but 991 997"),
            (QUADRANGLE, "all but"),
            (PAPPUS, "all but"),
        ]:
            found = drawn(*rows).possible()
            self.assertIs(type(found), Chars)
            self.assertEqual(str(found), expected)

    def test_by_choices(self):
        chance = random.Random(1)
        for _ in range(100):
            rows, _ = any_drawing(chance)
            drawing = drawn(*rows)
            for p, field in LARGE.items():
                tries = [{name: field.any(chance) for name in drawing.unknowns()} for _ in range(3)]
                expected = any(plain_triples(rows, choice, field) is not None for choice in tries)
                self.assertEqual(p in drawing.possible(), expected, (rows, p))


class TestSentences(unittest.TestCase):
    ROWS = ["point A 1 0 0", "point B 0 1 0", "point C 1 1 0", "join a A B", "join b B C", "join c A C"]

    def check(self, sentence, at):
        drawing = drawn(*self.ROWS)
        expected = ("BadText", {"at": at})
        self.assertEqual(raised(drawing.always, sentence), expected, sentence)
        self.assertEqual(raised(drawing.holds, sentence, {}, p=3), expected, sentence)
        self.assertEqual(raised(drawing.breaking, sentence, p=3), expected, sentence)

    def test_right_ones(self):
        drawing = drawn(*self.ROWS)
        for sentence in ("same A B", "same A A", "same a b", "line A B C", "line A A A", "through a b c", "on A a"):
            self.assertIsNone(raised(drawing.always, sentence))

    def test_the_first_word(self):
        for sentence in ("", " ", "Same A B", "sam A B", "A", "lines A B C", " same A B", "point A B", "meet a b", "same\t A B"):
            self.check(sentence, 0)

    def test_too_few_words(self):
        for sentence in ("same", "same A", "same a", "line", "line A", "line A B", "through", "through a", "through a b", "on", "on A"):
            self.check(sentence, len(sentence.split(" ")))

    def test_too_many_words(self):
        for sentence, at in [("same A B C", 3), ("same a b c d", 3), ("line A B C A", 4), ("through a b c ", 4), ("on A a b", 3),
                             ("same A B ", 3), ("on A a  ", 3)]:
            self.check(sentence, at)

    def test_names_that_nothing_has(self):
        for sentence, at in [("same X B", 1), ("same A X", 2), ("same X", 1), ("same ", 1), ("same  A B", 1), ("same A  B", 2),
                             ("line A x C", 2), ("line A B X X", 3), ("through d a b", 1), ("on A d", 2), ("on X d", 1),
                             ("same A1 A", 1), ("line A B ", 3), ("same X a b c", 1)]:
            self.check(sentence, at)

    def test_names_of_the_wrong_kind(self):
        for sentence, at in [("same A a", 2), ("same a A", 2), ("line a A B", 1), ("line A B c", 3), ("through A b c", 1),
                             ("through a B c", 2), ("on a A", 1), ("on A B", 2), ("on a b", 1), ("line A b", 2), ("on A B C", 2)]:
            self.check(sentence, at)


class TestAlways(unittest.TestCase):
    def test_closing_sentences(self):
        quadrangle = drawn(*QUADRANGLE, "meet R e f")
        self.assertEqual(str(quadrangle.possible()), "all but")
        self.assertEqual(str(quadrangle.always("line P Q R")), "primes 2")
        self.assertEqual(str(drawn(*DESARGUES).always("line X Y Z")), "all but")
        self.assertEqual(str(drawn(*PAPPUS).always("line X Y Z")), "all but")
        self.assertEqual(str(drawn(*PAPPUS).always("line A B X")), "primes")
        self.assertEqual(str(drawn(*DESARGUES).always("line A Y Z")), "primes")
        # The dual sentence of Desargues: the lines a, c and e meet the other ones on a line.
        dual = drawn(*DESARGUES, "join g A P", "join h B Q", "join i C R")
        self.assertEqual(str(dual.always("through g h i")), "all but")

    def test_values(self):
        drawing = drawn("point A 1 2 3", "point B 7 2 9", "point C 2 4 6", "free D", "join a A D", "join b B D")
        self.assertEqual(str(drawing.possible()), "all but 2")
        self.assertEqual(str(drawing.always("same A B")), "primes 3")
        self.assertEqual(str(drawing.always("same A C")), "all but 2")
        self.assertEqual(str(drawing.always("same A A")), "all but 2")
        self.assertEqual(str(drawing.always("same a b")), "primes 3")
        self.assertEqual(str(drawing.always("same A D")), "primes")
        self.assertEqual(str(drawing.always("on A a")), "all but 2")
        self.assertEqual(str(drawing.always("on B a")), "primes 3")
        self.assertEqual(str(drawing.always("on D b")), "all but 2")
        self.assertEqual(str(drawing.always("through a a b")), "all but 2")
        self.assertEqual(str(drawing.always("line A B D")), "primes 3")
        self.assertEqual(str(drawing.always("line A A D")), "all but 2")

    def test_only_where_the_drawing_is_possible(self):
        drawing = drawn("point A 6 0 0", "point B 0 1 0", "point C 10 0 0")
        self.assertEqual(str(drawing.always("same A C")), "all but 2 3 5")
        self.assertEqual(str(drawing.always("same A B")), "primes")
        drawing = drawn("point A 0 0 0", "point B 0 1 0")
        self.assertEqual(str(drawing.always("same A B")), "primes")
        self.assertEqual(str(drawing.always("same B B")), "primes")

    def test_large_contents_where_it_is_impossible(self):
        # The determinant is 997 * 991 * 983 * 2, and only the factor 2 is in question.
        drawing = drawn("point A 997 0 0", "point B 0 991 0", "point C 0 0 983", "point D 2 0 1", "join a B C")
        self.assertEqual(str(drawing.always("line A B C")), "primes")
        self.assertEqual(str(drawing.always("on D a")), "primes 2")
        self.assertEqual(str(drawing.always("line B C D")), "primes 2")

    def test_by_choices(self):
        chance = random.Random(2)
        seen = set()
        for _ in range(250):
            rows, kinds = any_drawing(chance, chance.randint(2, 9))
            drawing = drawn(*rows)
            for _ in range(3):
                sentence = any_sentence(chance, kinds)
                found = drawing.always(sentence)
                self.assertIs(type(found), Chars)
                for p, field in LARGE.items():
                    tries = [{name: field.any(chance) for name in drawing.unknowns()} for _ in range(4)]
                    answers = [plain_holds(rows, sentence, choice, field) for choice in tries]
                    expected = True in answers and False not in answers
                    self.assertEqual(p in found, expected, (rows, sentence, p))
                seen.add((found.endless, bool(found.primes)))
        self.assertEqual(len(seen), 4)


class TestHolds(unittest.TestCase):
    def test_values(self):
        drawing = drawn("free A", "free B", "join a A B", "point C 1 0 1")
        choice = {"A1": 0, "A2": 0, "B1": 1, "B2": 0}
        self.assertIs(drawing.holds("on C a", choice, p=0), True)
        self.assertIs(drawing.holds("same B C", choice, p=0), True)
        self.assertIs(drawing.holds("same A C", choice, p=0), False)
        self.assertIs(drawing.holds("on C a", {**choice, "B2": 3}, p=3), True)
        self.assertIs(drawing.holds("on C a", {**choice, "B2": 3}, p=5), False)
        self.assertIs(drawing.holds("on C a", {**choice, "B2": 3}, p=0), False)
        self.assertIsNone(drawing.holds("on C a", {**choice, "B1": 5}, p=5))
        self.assertIsNone(drawing.holds("same A A", {**choice, "B1": 0}, p=0))
        self.assertIs(drawing.holds("on C a", {**choice, "C1": 9, "1": 0, "0": 7}, p=0), True)

    def test_large_numbers(self):
        drawing = drawn("free A", "point B 0 0 1", "point C 1 1 1")
        for n in (10 ** 30, -10 ** 3000):
            self.assertIs(drawing.holds("line A B C", {"A1": n, "A2": n}, p=0), True)
            self.assertIs(drawing.holds("line A B C", {"A1": n, "A2": n + 1}, p=0), False)
            self.assertIs(drawing.holds("line A B C", {"A1": n, "A2": n + LIMIT_PRIME}, p=LIMIT_PRIME), True)
            self.assertIs(drawing.holds("line A B C", {"A1": n, "A2": n + 1}, p=LIMIT_PRIME), False)

    def test_by_the_lines(self):
        chance = random.Random(3)
        seen = {True: 0, False: 0, None: 0}
        for _ in range(200):
            rows, kinds = any_drawing(chance)
            drawing = drawn(*rows)
            for p, field in [(0, WholeNumbers()), (2, Remainders(2)), (3, Remainders(3)), (7, Remainders(7))]:
                choice = {name: chance.randint(-3, 3) for name in drawing.unknowns()}
                sentence = any_sentence(chance, kinds)
                expected = plain_holds(rows, sentence, {name: field.number(choice[name]) for name in choice}, field)
                self.assertIs(drawing.holds(sentence, choice, p=p), expected)
                seen[expected] += 1
        self.assertGreater(min(seen.values()), 10)

    def test_the_order_of_the_errors(self):
        drawing = drawn("point A 0 0 0", "free B", "on C A B", "free D")
        for p in NO_CHARACTERISTICS:
            self.assertEqual(raised(drawing.holds, "same", {}, p=p), ("BadCharacteristic", {"p": p}))
        self.assertEqual(raised(drawing.holds, "same A", {}, p=2), ("BadText", {"at": 2}))
        self.assertEqual(raised(drawing.holds, "same A A", {}, p=2), ("UnknownName", {"name": "B1"}))
        self.assertEqual(raised(drawing.holds, "same A A", {"B1": 0, "D1": 0}, p=2), ("UnknownName", {"name": "B2"}))
        self.assertEqual(raised(drawing.holds, "same A A", {"B1": 0, "B2": 0}, p=2), ("UnknownName", {"name": "C1"}))
        choice = {"B1": 0, "B2": 0, "C1": 1, "D2": 4}
        self.assertEqual(raised(drawing.holds, "same A A", choice, p=2), ("UnknownName", {"name": "D1"}))
        self.assertIsNone(drawing.holds("same A A", {**choice, "D1": 1}, p=2))
        self.assertEqual(choice, {"B1": 0, "B2": 0, "C1": 1, "D2": 4})

    def test_p_is_passed_by_keyword(self):
        drawing = drawn("free A", "free B")
        self.assertRaises(TypeError, drawing.holds, "same A B", {"A1": 0, "A2": 0, "B1": 0, "B2": 0}, 3)
        self.assertRaises(TypeError, drawing.breaking, "same A B", 3)


class TestBreaking(unittest.TestCase):
    def test_values(self):
        drawing = drawn("free A", "point B 0 0 1")
        self.assertEqual(drawing.breaking("same A B", p=0), {"A1": 0, "A2": 1})
        self.assertEqual(list(drawing.breaking("same A B", p=0)), ["A1", "A2"])
        self.assertIsNone(drawing.breaking("same A B", p=5, most=1))
        self.assertEqual(drawing.breaking("same A A", p=5), None)
        drawing = drawn("free A", "point B 0 1 0", "join a A B", "point C 2 0 1")
        self.assertEqual(drawing.breaking("on C a", p=0), {"A1": 0, "A2": 0})
        self.assertEqual(drawing.breaking("on C a", p=2), {"A1": 1, "A2": 0})

    def test_the_default(self):
        # Y is the point (x * x, 0, 1) for the point X, (x, 0, 1); so they are the same for x = 0 and x = 1 alone.
        drawing = drawn(*SQUARE)
        self.assertEqual(drawing.breaking("same X Y", p=0), {"X1": 2})
        self.assertEqual(drawing.breaking("same X Y", p=0, most=3), {"X1": 2})
        self.assertIsNone(drawing.breaking("same X Y", p=0, most=2))
        self.assertEqual(drawing.breaking("same X Y", p=3, most=20), {"X1": 2})
        self.assertIsNone(drawing.breaking("same X Y", p=5, most=1))
        # The lines to the points with 0, 1 and 2 forbid these numbers, so that 3 is the first one.
        drawing = drawn("point Z 0 0 1", "point E 1 0 1", "point T 2 0 1", "point F 1 0 0", "on X Z F", "join a X Z",
                        "join b X E", "join c X T")
        self.assertIsNone(drawing.breaking("same X Z", p=0))
        self.assertIsNone(drawing.breaking("same X Z", p=0, most=3))
        self.assertEqual(drawing.breaking("same X Z", p=0, most=4), {"X1": 3})
        self.assertIsNone(drawing.breaking("same X Z", p=3, most=4))

    def test_none_although_larger_fields_break_it(self):
        drawing = drawn(*SQUARE)
        for most in (1, 2, 3, 20):
            self.assertIsNone(drawing.breaking("same X Y", p=2, most=most))
        self.assertEqual(str(drawing.possible()), "all but")
        self.assertEqual(str(drawing.always("same X Y")), "primes")

    def test_without_unknowns(self):
        drawing = drawn("point A 1 0 0", "point B 4 3 0")
        self.assertEqual(drawing.breaking("same A B", p=0), {})
        self.assertIsNone(drawing.breaking("same A B", p=3))
        self.assertEqual(drawing.breaking("same A B", p=5, most=1), {})
        # In the characteristic 2 the drawing is not possible.
        drawing = drawn("point A 2 0 0", "point B 0 3 1")
        self.assertIsNone(drawing.breaking("same A B", p=2))
        self.assertEqual(drawing.breaking("same A B", p=3), {})

    def test_by_the_choices(self):
        chance = random.Random(4)
        found_none = 0
        for _ in range(150):
            rows, kinds = any_drawing(chance, chance.randint(3, 8))
            drawing = drawn(*rows)
            unknowns = drawing.unknowns()
            for p, field in [(0, WholeNumbers()), (2, Remainders(2)), (3, Remainders(3)), (5, Remainders(5))]:
                sentence = any_sentence(chance, kinds)
                most = chance.choice([1, 2, 3]) if len(unknowns) > 3 else chance.choice([1, 2, 4, 5])
                expected = None
                for numbers in product(range(most), repeat=len(unknowns)):
                    choice = dict(zip(unknowns, numbers))
                    values = {name: field.number(n) for name, n in choice.items()}
                    if plain_holds(rows, sentence, values, field) is False:
                        expected = choice
                        break
                found = drawing.breaking(sentence, p=p, most=most)
                self.assertEqual(found, expected)
                if found is not None:
                    self.assertEqual(list(found), unknowns)
                    self.assertIs(drawing.holds(sentence, found, p=p), False)
                    self.assertNotIn(p, drawing.always(sentence))
                found_none += found is None
                if most == 3:
                    self.assertEqual(drawing.breaking(sentence, p=p), expected)
        self.assertGreater(found_none, 50)

    def test_many_choices(self):
        rows = ["free A", "free B", "on C A B", "on D A B", "join a A B"]
        drawing = drawn(*rows)
        self.assertIsNone(drawing.breaking("on D a", p=5, most=5))
        self.assertIsNone(drawing.breaking("line B C D", p=LIMIT_PRIME, most=5))
        self.assertEqual(drawn("free A").breaking("same A A", p=2, most=20), None)

    def test_the_order_of_the_errors(self):
        drawing = drawn("free A")
        for p in NO_CHARACTERISTICS:
            self.assertEqual(raised(drawing.breaking, "", p=p), ("BadCharacteristic", {"p": p}))
        self.assertEqual(raised(drawing.breaking, "same A B", p=2, most=1), ("BadText", {"at": 2}))

    def test_the_dictionary_is_a_new_one(self):
        drawing = drawn("free A", "point B 0 0 1")
        drawing.breaking("same A B", p=0)["A1"] = 5
        self.assertEqual(drawing.breaking("same A B", p=0), {"A1": 0, "A2": 1})
        self.assertEqual(drawing.unknowns(), ["A1", "A2"])


class TestExamples(unittest.TestCase):
    def test_first(self):
        drawing = drawn(*QUADRANGLE)
        self.assertEqual(
            [str(drawing.possible()), str(drawing.always("on P e")), drawing.unknowns(), drawing.holds("on P a", {}, p=5)],
            ["all but", "primes", [], True])

    def test_second(self):
        drawing = Drawing("point A 1 0 0\npoint B 0 1 0\non X A B\nfree Y\njoin l X Y")
        self.assertEqual(
            [drawing.unknowns(), str(drawing.always("on X l")), str(drawing.always("line A B Y")),
             drawing.breaking("line A B Y", p=2)],
            [["X1", "Y1", "Y2"], "all but", "primes", {"X1": 0, "Y1": 0, "Y2": 0}])


if __name__ == "__main__":
    unittest.main()
