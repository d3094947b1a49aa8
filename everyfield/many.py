"""Polynomials in many unknowns with whole coefficients, read in every field."""

from everyfield.chars import Chars
from everyfield.errors import UnknownName
from everyfield.whole import checked, common_of, remainder
from everyfield.words import written


def _times_values(n, names, values):
    """The integer n times the values of the names."""
    for name in names:
        n = n * values[name]
    return n


class Many:
    """A polynomial in many unknowns, which never changes.

    Its terms are a dictionary of the coefficients by the tuples of the names
    as a term is written: in ascending order, and repeated as the exponents say.
    """

    def __init__(self, terms):
        self._terms = {names: terms[names] for names in terms if terms[names] != 0}

    @classmethod
    def number(cls, n):
        """The polynomial without unknowns that is the integer n."""
        return cls({(): n})

    @classmethod
    def unknown(cls, name):
        """The unknown with this name."""
        return cls({(name,): 1})

    def __add__(self, other):
        found = {}
        for terms in (self._terms, other._terms):
            for names in terms:
                found[names] = found.get(names, 0) + terms[names]
        return Many(found)

    def __sub__(self, other):
        return self + -other

    def __neg__(self):
        return Many({names: -n for names, n in self._terms.items()})

    def __mul__(self, other):
        found = {}
        for names, n in self._terms.items():
            for others, m in other._terms.items():
                both = tuple(sorted(names + others))
                found[both] = found.get(both, 0) + n * m
        return Many(found)

    def __eq__(self, other):
        return isinstance(other, Many) and self._terms == other._terms

    def __str__(self):
        if not self._terms:
            return "0"
        return " + ".join([" ".join([written(self._terms[names]), *names]) for names in sorted(self._terms)])

    def names(self):
        """The ascending list of the names of the unknowns that occur."""
        return sorted({name for names in self._terms for name in names})

    def degree(self):
        """The greatest sum of the exponents of a term; -1 if there are none."""
        return max([len(names) for names in self._terms], default=-1)

    def content(self):
        """The greatest common divisor of the coefficients; 0 if there are none."""
        return common_of(list(self._terms.values()))

    def vanishing(self):
        """The set of the characteristics in which all coefficients are 0."""
        return Chars.zero_of(self.content())

    def put(self, values):
        """The polynomial with integers in the place of the unknowns whose names are in values."""
        found = {}
        for names, n in self._terms.items():
            left = tuple([name for name in names if name not in values])
            taken = [name for name in names if name in values]
            found[left] = found.get(left, 0) + _times_values(n, taken, values)
        return Many(found)

    def value(self, values, *, p):
        """The integer that is the value in the characteristic p, with values for all unknowns that occur."""
        checked(p)
        known = {}
        for name in self.names():
            if name not in values:
                raise UnknownName(name)
            known[name] = remainder(values[name], p)
        return remainder(sum([_times_values(n, names, known) for names, n in self._terms.items()]), p)
