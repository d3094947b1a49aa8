"""Tests of what points 0.2 to 0.7 and the introduction of the interface promise over the whole program."""

import unittest

from plain import raised

from everyfield import chars, diagonal, drawings, errors, many, matrices, matroids, plane, poly, reports, ruler, studio
from everyfield import systems, unknown, whole

Chars, Poly, Matrix, Many = chars.Chars, poly.Poly, matrices.Matrix, many.Many
Point, Line, Drawing = plane.Point, plane.Line, drawings.Drawing

ROWS = ["point A 1 0 0", "free B", "on C A B", "join l A B", "point D 1 3 0"]


def frozen(thing):
    """All that a value consists of, so that two states of it can be compared."""
    if isinstance(thing, (list, tuple)):
        return type(thing).__name__, [frozen(item) for item in thing]
    if isinstance(thing, dict):
        return "dict", [(frozen(key), frozen(item)) for key, item in thing.items()]
    if hasattr(thing, "__dict__"):
        return type(thing).__name__, frozen(vars(thing))
    return type(thing).__name__, thing


def spoil(thing):
    """Changes all lists and dictionaries in a value."""
    if isinstance(thing, (list, tuple)):
        for item in thing:
            spoil(item)
    if isinstance(thing, dict):
        for item in thing.values():
            spoil(item)
        thing.clear()
    if isinstance(thing, list):
        thing.append("spoiled")


def told_book():
    book = reports.Book()
    book.tell(Chars.but(2), True, name="odd")
    book.tell(Chars.only(2, 3, 5), True)
    book.tell(Chars.but(7), True)
    return book


def grown_studio():
    found = studio.Studio()
    for row in ROWS:
        found.add(row)
    found.see("same A D", False)
    return found


SQUARE = Matrix([[1, 1, 0], [0, 1, 1], [1, 0, 1]])
WIDE = Matrix([[1, 0, 1, 1], [0, 1, 1, -1]])
F, G = Poly([1, 1, 1]), Poly([-1, 1])
X, Y = Many.unknown("x"), Many.unknown("y")
DRAWING = Drawing("\n".join(ROWS))
RULER = ruler.Ruler("sum two one one\nquotient half one two")
BOOK, STUDIO = told_book(), grown_studio()
CHOICE = {"B1": 0, "B2": 2, "C1": 1}
TRIPLE = (X, Y, Many.number(6))

# Functions with their arguments, by position and by keyword; none of these calls changes anything.
CALLS = [
    (whole.prime_divisors, [60], {}), (whole.combination, [12, 18], {}), (whole.common, [12, 18], {}),
    (whole.is_prime, [7], {}), (whole.checked, [7], {}), (whole.is_zero, [6, 3], {}),
    (Chars, [True, [3, 2, 2]], {}), (Chars.only, [3, 2], {}), (Chars.read, ["all but 3 2"], {}),
    (Chars.but(2).least, [], {}), (Chars.but(2).least, [], {"most": 5}),
    (Poly, [[1, 2, 0]], {}), (Poly.read, ["1 2"], {}), (F.degree, [], {}), (F.content, [], {}), (F.primitive, [], {}),
    (F.derivative, [], {}), (F, [3], {}), (poly.in_char, [F, 2], {}), (poly.gcd_in, [F, G, 3], {}),
    (poly.divided_in, [F, G, 3], {}), (poly.roots_in, [F, 7], {}), (poly.resultant, [F, G], {}),
    (Matrix, [[[1, 2], [3, 4]]], {}), (Matrix.diagonal, [[1, 2], 2, 3], {}), (Matrix.unit, [2], {}),
    (SQUARE.minors, [2], {}), (SQUARE.times, [[1, 2, 3]], {}), (SQUARE.part, [[0, 1], [1, 2]], {}),
    (SQUARE.determinant, [], {}), (SQUARE.scaled, [3], {}), (SQUARE.transposed, [], {}), (SQUARE.beside, [SQUARE], {}),
    (diagonal.diagonal, [WIDE], {}), (diagonal.divisors, [SQUARE], {}), (diagonal.undone, [Matrix([[2, 1], [1, 1]])], {}),
    (diagonal.shown, [SQUARE, SQUARE, SQUARE, SQUARE], {}),
    (systems.rank, [SQUARE], {"p": 2}), (systems.rank_where, [SQUARE], {}), (systems.solvable, [SQUARE, [1, 0, 0]], {}),
    (systems.solution, [SQUARE, [1, 0, 0]], {"p": 3}), (systems.barring, [SQUARE, [1, 0, 0]], {"p": 2}),
    (systems.barring, [SQUARE, [1, 0, 0]], {"p": 3}), (systems.kernel, [SQUARE], {"p": 2}),
    (systems.kernel, [SQUARE], {"p": 0}), (systems.invertible, [SQUARE], {}), (systems.inverse, [SQUARE], {"p": 3}),
    (systems.solvable_by, [SQUARE, [1, 0, 0], 4], {}), (systems.how_many_by, [SQUARE, 4], {}),
    (matroids.independent, [WIDE, [3, 2]], {}), (matroids.bases, [WIDE], {"p": 2}), (matroids.circuits, [WIDE], {"p": 2}),
    (matroids.spanned, [WIDE, [2]], {"p": 2}), (matroids.exchange, [WIDE, [2, 0], [3, 1], 0], {"p": 2}),
    (matroids.heaviest, [WIDE, [1, 1, 5, 4]], {"p": 2}), (matroids.same_columns, [WIDE, WIDE], {}),
    (matroids.changes, [WIDE], {}), (matroids.never_changes, [WIDE], {}), (matroids.bad_square, [WIDE], {}),
    (matroids.dual, [WIDE], {"p": 2}),
    (unknown.somewhere, [[F, G], []], {}), (unknown.how_many_there, [[F], [G]], {}), (unknown.fitting, [[F], []], {"p": 7}),
    (unknown.least_power, [[F], []], {"p": 2}), (unknown.same_fitting, [([F], []), ([F], [G])], {}),
    (unknown.witness, [[F], [G]], {"p": 0}), (unknown.is_witness, [[F], [G], F], {"p": 0}),
    (unknown.barring, [[F, G], []], {"p": 2}), (unknown.barring, [[], [Poly([])]], {"p": 2}),
    (unknown.is_barring, [[F, G], [], (3, 0, [Poly([1]), Poly([-2, -1])])], {"p": 2}),
    ((X * Y).names, [], {}), ((X * Y).degree, [], {}), ((X * Y).content, [], {}), ((X * Y).vanishing, [], {}),
    ((X * Y).put, [{"x": 2}], {}), ((X * Y).value, [{"x": 2, "y": 3}], {"p": 5}),
    (plane.cross, [TRIPLE, TRIPLE[::-1]], {}), (plane.dot, [TRIPLE, TRIPLE], {}), (plane.volume, [TRIPLE, TRIPLE, TRIPLE], {}),
    (plane.normal, [[0, 4, 2]], {"p": 5}), (plane.points_on, [[1, 1, 1], 3], {}), (Point(*TRIPLE).possible, [], {}),
    (Point(*TRIPLE).seen, [{"x": 1, "y": 2}], {"p": 0}), (Line(*TRIPLE).seen, [{"x": 1, "y": 2}], {"p": 0}),
    (Point(*TRIPLE).line_to, [Point.loose("a")], {}), (Line(*TRIPLE).crossing, [Line(X, X, Y)], {}),
    (Point(*TRIPLE).off, [Line(*TRIPLE)], {}),
    (DRAWING.names, [], {}), (DRAWING.unknowns, [], {}), (DRAWING.triple, ["C"], {}), (DRAWING.possible, [], {}),
    (DRAWING.always, ["same A D"], {}), (DRAWING.holds, ["same A D", CHOICE], {"p": 3}),
    (DRAWING.breaking, ["same A B"], {"p": 3}), (DRAWING.breaking, ["same A D"], {"p": 3, "most": 2}),
    (RULER.names, [], {}), (RULER.as_fraction, ["half"], {}), (RULER.possible, ["half"], {}), (RULER.same, ["two", "half"], {}),
    (RULER.value, ["half"], {"p": 3}), (RULER.shown, ["half"], {"p": 3}), (RULER.shown, ["one"], {"p": 3}),
    (ruler.built, [-6], {}),
    (BOOK.fits, [], {}), (BOOK.reports, [], {}), (BOOK.named, ["odd"], {}), (BOOK.verdict, [Chars.but(2)], {}),
    (BOOK.needless, [], {}), (BOOK.best, [Chars.only(3), Chars.only(5)], {"most": 7}),
    (STUDIO.fits, [], {}), (STUDIO.asks, ["same A D"], {}), (STUDIO.text, [], {}), (STUDIO.seen, [], {}),
]

KINDS = [
    Chars.every(), Chars.none(), Poly([]), Poly([1, 2]), Matrix([[0]]), Matrix([[1, 2]]), Many.number(0), X, Point.whole(0, 0, 0),
    Point.loose("a"), Line(Many.number(0), Many.number(0), Many.number(0)), Line(X, Y, X),
]
OTHERS = [None, True, False, 0, 1, "", "0", "primes", "1 2", b"", [], [1, 2], (), (1, 2), {}, ((1, 2),), (X, Y, X), ((0,),)]


class TestValues(unittest.TestCase):
    def test_none_is_equal_to_a_value_of_another_kind(self):
        for at, value in enumerate(KINDS):
            for other in OTHERS + [thing for k, thing in enumerate(KINDS) if k != at]:
                self.assertFalse(value == other, (value, other))
                self.assertFalse(other == value, (value, other))
                self.assertTrue(value != other, (value, other))
            self.assertIs(value == value, True)

    def test_operators_change_nothing(self):
        pairs = [(Chars.but(2), Chars.only(3, 5)), (F, G), (SQUARE, Matrix([[1, 2, 3], [0, 4, 5], [6, 7, 0]])), (X + Y, X - Y)]
        for first, second in pairs:
            before = frozen([first, second])
            if isinstance(first, Chars):
                first & second, first | second, first - second, ~first, bool(first), 2 in first, list(first.upto(9))
            else:
                first + second, first - second, first * second, -first
            first == second, str(first)
            self.assertEqual(frozen([first, second]), before)


class TestCalls(unittest.TestCase):
    def test_no_argument_is_changed(self):
        for function, arguments, more in CALLS:
            before = frozen([arguments, more])
            function(*arguments, **more)
            self.assertEqual(frozen([arguments, more]), before, function)

    def test_what_is_returned_is_new(self):
        for function, arguments, more in CALLS:
            found = function(*arguments, **more)
            before = frozen(found)
            spoil(found)
            self.assertEqual(frozen(function(*arguments, **more)), before, function)

    def test_no_object_is_changed(self):
        objects = [SQUARE, WIDE, F, G, X, Y, DRAWING, RULER, BOOK, STUDIO, TRIPLE]
        before = frozen(objects)
        for function, arguments, more in CALLS:
            spoil(function(*arguments, **more))
        self.assertEqual(frozen(objects), before)

    def test_integers_and_truth_values(self):
        truths = ["is_prime", "is_zero", "shown", "solvable_by", "never_changes", "is_witness", "is_barring", "holds"]
        for function, arguments, more in CALLS:
            found = function(*arguments, **more)
            name = getattr(function, "__name__", "")
            if isinstance(found, bool):
                self.assertIn(name, truths)
        self.assertIs(type(DRAWING.holds("same A D", CHOICE, p=3)), bool)
        for found in (F(True + 1), Poly([1]).degree(), RULER.value("one", p=2), BOOK.named("odd"), BOOK.best(Chars.only(3))):
            self.assertIs(type(found), int)

    def test_lists_that_were_given_may_change(self):
        rows, numbers = [[1, 2], [3, 4]], [2, 3]
        matrix, found, made = Matrix(rows), Chars(False, numbers), Poly(numbers)
        before = frozen([matrix, found, made])
        rows[0].append(5)
        rows.clear()
        numbers.clear()
        self.assertEqual(frozen([matrix, found, made]), before)
        clash = [1, 2]
        error = errors.Contradiction(clash)
        clash.clear()
        self.assertEqual(error.clash, [1, 2])


class TestErrors(unittest.TestCase):
    def test_an_error_leaves_every_object_as_it_was(self):
        wrong = [
            (BOOK.tell, [Chars.none(), True], {}), (BOOK.tell, [Chars.every(), True], {"name": "odd"}),
            (BOOK.named, ["even"], {}), (STUDIO.add, ["point"], {}), (STUDIO.add, ["point E 0 0 0"], {}),
            (STUDIO.add, ["point E 1 1 1\n"], {}), (STUDIO.see, ["same A", True], {}), (STUDIO.see, ["same A D", True], {}),
            (STUDIO.asks, ["same A E"], {}), (DRAWING.triple, ["E"], {}), (DRAWING.always, ["same"], {}),
            (DRAWING.holds, ["same A D", {}], {"p": 3}), (DRAWING.breaking, ["same A D"], {"p": 4}),
            (RULER.as_fraction, ["x"], {}), (RULER.value, ["two"], {"p": 0}), (RULER.shown, ["x"], {"p": 3}),
            (RULER.same, ["two", "x"], {}), ((X * Y).value, [{"x": 1}], {"p": 3}), (Point(*TRIPLE).seen, [{}], {"p": 3}),
            (SQUARE.times, [[1]], {}), (SQUARE.beside, [WIDE], {}), (WIDE.determinant, [], {}),
            (systems.solution, [SQUARE, [1, 0, 0]], {"p": 2}), (systems.inverse, [SQUARE], {"p": 2}),
            (matroids.exchange, [WIDE, [0], [1], 0], {"p": 2}), (matroids.heaviest, [WIDE, [1]], {"p": 2}),
        ]
        for function, arguments, more in wrong:
            things = [arguments, SQUARE, WIDE, DRAWING, RULER, BOOK, STUDIO, TRIPLE]
            before = frozen(things)
            self.assertIsNotNone(raised(function, *arguments, **more), function)
            self.assertEqual(frozen(things), before, function)

    def test_all_errors_are_directly_below_one(self):
        for name, found in vars(errors).items():
            if isinstance(found, type) and found is not errors.FieldError:
                self.assertEqual(found.__bases__, (errors.FieldError,), name)
        self.assertEqual(errors.FieldError.__bases__, (ValueError,))

    def test_an_undo_is_no_part_of_what_was_told(self):
        book, grown = told_book(), grown_studio()
        told, seen = book.reports(), grown.seen()
        book.take_back()
        grown.undo()
        self.assertEqual((len(told), len(seen)), (3, 1))


class TestFields(unittest.TestCase):
    def test_one_question_in_many_ways(self):
        # Two points of the plane fall together where 6 is 0; each part of the program says so in its way.
        six = Chars.only(2, 3)
        self.assertEqual(Chars.zero_of(6), six)
        self.assertEqual(unknown.somewhere([Poly([6])], []), six)
        self.assertEqual(~systems.invertible(Matrix([[1, 0], [1, 6]])), six)
        self.assertEqual(~matroids.independent(Matrix([[1, 1], [0, 6]]), [0, 1]), six)
        self.assertEqual((Many.number(6) * X).vanishing(), six)
        line = Point.whole(1, 0, 0).line_to(Point.whole(1, 6, 0))
        self.assertEqual(~line.possible(), six)
        self.assertEqual(Drawing("point A 1 0 0\npoint B 1 6 0").always("same A B"), six)
        numbers = ruler.Ruler(ruler.built(6))
        self.assertEqual(numbers.same(numbers.names()[-1], "zero"), six)

    def test_a_power_field_decides(self):
        # Among 0 and 1 nothing fits, but in the field with 4 numbers it does: the characteristic is what counts.
        zeros = [Poly([1, 1, 1])]
        self.assertEqual(unknown.fitting(zeros, [], p=2), [])
        self.assertEqual(unknown.least_power(zeros, [], p=2), 2)
        self.assertIn(2, unknown.somewhere(zeros, []))


if __name__ == "__main__":
    unittest.main()
