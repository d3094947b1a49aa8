"""Points and lines of the plane, whose coordinates are polynomials in many unknowns."""

from everyfield.chars import Chars
from everyfield.many import Many
from everyfield.whole import checked, checked_prime, common_of, reciprocal, remainder, sum_of_products


def cross(first, second):
    """The line through two points, or the point on two lines, as a triple."""
    a, b, c = first
    d, e, f = second
    return b * f - c * e, c * d - a * f, a * e - b * d


def dot(first, second):
    """The polynomial that is 0 exactly if the point is on the line."""
    a, b, c = first
    d, e, f = second
    return a * d + b * e + c * f


def volume(first, second, third):
    """The polynomial that is 0 exactly if three points have a line in common, or three lines a point."""
    return dot(cross(first, second), third)


def content_of(triple):
    """The integer that is 0 exactly in the characteristics in which the three polynomials are."""
    return common_of([many.content() for many in triple])


def _possible(triple):
    """The set of the characteristics in which the three polynomials are not all 0."""
    return Chars.unit_of(content_of(triple))


def normal_in(triple, p):
    """What normal returns, for p that is checked already."""
    numbers = [remainder(n, p) for n in triple]
    first = _first_unit(numbers)
    if first == 0:
        return None
    if p != 0:
        by = reciprocal(first, p)
        return tuple([n * by % p for n in numbers])
    by = common_of(numbers)
    if first < 0:
        by = -by
    return tuple([n // by for n in numbers])


def _first_unit(numbers):
    """The first one of the numbers that is not 0; 0 if all are."""
    for n in numbers:
        if n != 0:
            return n
    return 0


def normal(triple, *, p):
    """The chosen one among the triples of integers that give the same point in the characteristic p, or None."""
    return normal_in(triple, checked(p))


def _seen(triple, values, p):
    """The normal triple of the values of three polynomials in the characteristic p, or None."""
    return normal([many.value(values, p=p) for many in triple], p=p)


class Point:
    """A point of the plane, which never changes; coordinates is the triple of its polynomials."""

    def __init__(self, x, y, z):
        self.coordinates = (x, y, z)

    @classmethod
    def whole(cls, x, y, z):
        """The point with three integers as coordinates."""
        return cls(Many.number(x), Many.number(y), Many.number(z))

    @classmethod
    def loose(cls, name):
        """The point with three unknowns as coordinates, which are named after it."""
        return cls(Many.unknown(f"{name}x"), Many.unknown(f"{name}y"), Many.unknown(f"{name}z"))

    def __eq__(self, other):
        return isinstance(other, Point) and self.coordinates == other.coordinates

    def line_to(self, other):
        """The line through this point and another one."""
        x, y, z = cross(self.coordinates, other.coordinates)
        return Line(x, y, z)

    def off(self, line):
        """The polynomial that is 0 exactly if the point is on the line."""
        return dot(self.coordinates, line.coordinates)

    def possible(self):
        """The set of the characteristics in which the coordinates are not all 0 as polynomials."""
        return _possible(self.coordinates)

    def seen(self, values, *, p):
        """The normal triple of the point for a choice of integers, or None."""
        return _seen(self.coordinates, values, p)


class Line:
    """A line of the plane, which never changes; coordinates is the triple of its polynomials."""

    def __init__(self, x, y, z):
        self.coordinates = (x, y, z)

    def __eq__(self, other):
        return isinstance(other, Line) and self.coordinates == other.coordinates

    def crossing(self, other):
        """The point on this line and another one."""
        x, y, z = cross(self.coordinates, other.coordinates)
        return Point(x, y, z)

    def possible(self):
        """The set of the characteristics in which the coordinates are not all 0 as polynomials."""
        return _possible(self.coordinates)

    def seen(self, values, *, p):
        """The normal triple of the line for a choice of integers, or None."""
        return _seen(self.coordinates, values, p)


def points_of(p):
    """The normal triples of all points whose coordinates are remainders modulo the prime p, in ascending order."""
    checked_prime(p)
    yield (0, 0, 1)
    for z in range(p):
        yield (0, 1, z)
    for y in range(p):
        for z in range(p):
            yield (1, y, z)


def points_on(triple, p):
    """The ascending list of the normal triples of the points of points_of that are on a line."""
    return [point for point in points_of(p) if sum_of_products(triple, point) % p == 0]
