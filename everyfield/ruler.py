"""Numbers on a line of the plane that joins and meets alone build, over every field."""

from everyfield.chars import Chars, where_units
from everyfield.errors import BadStep, UnknownName
from everyfield.plane import cross, normal_in
from everyfield.whole import checked_prime, common, reciprocal, remainder
from everyfield.words import is_name

# Of how many numbers a step builds another one.
_TAKES = {"sum": 2, "product": 2, "quotient": 2, "opposite": 1}

# The numbers that are given, as fractions.
_GIVEN = {"zero": (0, 1), "one": (1, 1)}

_ZERO = (0, 0, 1)
_ONE = (1, 0, 1)
_TOP = (0, 1, 1)
_ABOVE = (0, 1, 0)
_AXIS = (0, 1, 0)
_UPRIGHT = (1, 0, 0)
_LEVEL = (0, 1, -1)
_FAR = (0, 0, 1)

_LETTERS = "abcdefghijklmnopqrstuvwxyz"


def _is_step(words, steps):
    """True if the words are a step behind these ones."""
    if len(words) < 2 or words[0] not in _TAKES:
        return False
    word, name, *rest = words
    if name in _GIVEN or name in steps or not is_name(name) or not name.islower():
        return False
    return len(rest) == _TAKES[word] and all([other in _GIVEN or other in steps for other in rest])


def _fraction(upper, lower, p):
    """The chosen one of the fractions for a quotient in the characteristic p, as a tuple; None if lower is 0 there."""
    if remainder(lower, p) == 0:
        return None
    if p != 0:
        return upper * reciprocal(lower, p) % p, 1
    by = common(upper, lower)
    if lower < 0:
        by = -by
    return upper // by, lower // by


def _built_of(word, fractions, p):
    """The fraction that a step builds of others in the characteristic p, or None if it is not there."""
    if None in fractions:
        return None
    a, b = fractions[0]
    if word == "opposite":
        return _fraction(-a, b, p)
    c, d = fractions[1]
    if word == "sum":
        return _fraction(a * d + c * b, b * d, p)
    if word == "product":
        return _fraction(a * c, b * d, p)
    return _fraction(a * d, b * c, p)


class Sheet:
    """The joins and meets that a step takes in a prime characteristic; rows are those that were made, in order."""

    def __init__(self, p):
        self.p = p
        self.rows = []

    def _found(self, word, first, second):
        """The normal triple of a join or meet of two triples."""
        first, second = normal_in(first, self.p), normal_in(second, self.p)
        found = normal_in(cross(first, second), self.p)
        self.rows.append((word, found, first, second))
        return found

    def joined(self, first, second):
        """The line through two points."""
        return self._found("join", first, second)

    def met(self, first, second):
        """The point on two lines."""
        return self._found("meet", first, second)

    def alongside(self, line, point):
        """The line beside another one through a point."""
        return self.joined(point, self.met(line, _FAR))


def _draw_sum(sheet, a, b):
    line = sheet.joined(_TOP, b)
    point = sheet.met(sheet.joined(a, _ABOVE), _LEVEL)
    sheet.met(sheet.alongside(line, point), _AXIS)


def _draw_opposite(sheet, a):
    point = sheet.met(sheet.joined(a, _ABOVE), _LEVEL)
    sheet.met(sheet.alongside(sheet.joined(point, _ZERO), _TOP), _AXIS)


def _upright_point(sheet, b):
    """The point of the line upright that products and quotients begin with."""
    return sheet.met(sheet.alongside(sheet.joined(_ONE, _TOP), b), _UPRIGHT)


def _draw_product(sheet, a, b):
    point = _upright_point(sheet, b)
    sheet.met(sheet.alongside(sheet.joined(_TOP, a), point), _AXIS)


def _draw_quotient(sheet, a, b):
    point = _upright_point(sheet, b)
    sheet.met(sheet.alongside(sheet.joined(point, a), _TOP), _AXIS)


_DRAWS = {"sum": _draw_sum, "product": _draw_product, "quotient": _draw_quotient, "opposite": _draw_opposite}


class Ruler:
    """Numbers built one after the other of zero and one, made from a text whose lines are the steps."""

    def __init__(self, text):
        self._steps = {}
        for at, row in enumerate(text.split("\n")):
            words = row.split(" ")
            if not _is_step(words, self._steps):
                raise BadStep(at)
            word, name, *rest = words
            self._steps[name] = (word, rest)

    def _check_names(self, names):
        for name in names:
            if name not in _GIVEN and name not in self._steps:
                raise UnknownName(name)

    def _way_to(self, names):
        """The names of the steps that these numbers are built by, in order."""
        needed = {name: True for name in names}
        for name in reversed(list(self._steps)):
            if name in needed:
                for other in self._steps[name][1]:
                    needed[other] = True
        return [name for name in self._steps if name in needed]

    def _fractions(self, names, p):
        """The fractions in the characteristic p by the names of all numbers on the way to these; None if not there."""
        found = dict(_GIVEN)
        for name in self._way_to(names):
            word, rest = self._steps[name]
            found[name] = _built_of(word, [found[other] for other in rest], p)
        return found

    def names(self):
        """The list of the names of the steps in order."""
        return list(self._steps)

    def as_fraction(self, name):
        """The number in the characteristic 0 as a tuple (upper, lower) in lowest terms, or None."""
        self._check_names([name])
        return self._fractions([name], 0)[name]

    def possible(self, name):
        """The set of the characteristics in which the number is there."""
        self._check_names([name])
        steps = [self._steps[other] for other in self._way_to([name])]
        dividing = [rest[1] for word, rest in steps if word == "quotient"]
        fractions = self._fractions(dividing, 0)
        found = [fractions[other] for other in dividing]
        if None in found:
            return Chars.none()
        # Where a number is there at all, it is 0 exactly where the upper part of its lowest terms is.
        return where_units([upper for upper, _ in found])

    def same(self, first, second):
        """The set of the characteristics in which both numbers are there and are equal."""
        self._check_names([first, second])
        fractions = self._fractions([first, second], 0)
        if fractions[first] is None or fractions[second] is None:
            return Chars.none()
        (a, b), (c, d) = fractions[first], fractions[second]
        return Chars.zero_of(a * d - c * b) & self.possible(first) & self.possible(second)

    def value(self, name, *, p):
        """The number in the remainders modulo the prime p, or None."""
        checked_prime(p)
        self._check_names([name])
        found = self._fractions([name], p)[name]
        return None if found is None else found[0]

    def shown(self, name, *, p):
        """The list of the joins and meets of the step that builds the number in the characteristic p, or None."""
        checked_prime(p)
        self._check_names([name])
        if name in _GIVEN:
            return []
        fractions = self._fractions([name], p)
        if fractions[name] is None:
            return None
        word, rest = self._steps[name]
        points = [(fractions[other][0], 0, 1) for other in rest]
        sheet = Sheet(p)
        draw = _DRAWS[word]
        draw(sheet, *points)
        return sheet.rows


def _numbered(rows, rest):
    """The rows with one more, which gives the next name to what the rest says, as a tuple (rows, name)."""
    # Two letters are enough for all steps, and unlike zero and one.
    first, second = divmod(len(rows), len(_LETTERS))
    name = f"{_LETTERS[first]}{_LETTERS[second]}"
    word, *names = rest
    return [*rows, " ".join([word, name, *names])], name


def built(n):
    """A text whose last step builds the integer n, without quotients."""
    rows, name = [], "zero"
    for digit in f"{abs(n):b}":
        rows, name = _numbered(rows, ["sum", name, name])
        if digit == "1":
            rows, name = _numbered(rows, ["sum", name, "one"])
    if n < 0:
        rows, name = _numbered(rows, ["opposite", name])
    return "\n".join(rows)
