"""Drawings of points and lines of the plane, each made of earlier ones, over every field."""

from everyfield.chars import Chars, where_units
from everyfield.errors import BadStep, BadText, UnknownName
from everyfield.many import Many
from everyfield.plane import content_of, cross, dot, volume
from everyfield.whole import apart, checked, common_of, remainder
from everyfield.words import is_integer, is_name

_MOST_COORDINATE = 1000

# What a line makes, and of what: words for points and lines.
_MAKES = {"point": "point", "free": "point", "join": "line", "meet": "point", "on": "point"}
_TAKES = {"join": ("point", "point"), "meet": ("line", "line"), "on": ("point", "point")}

# The ends of the names of the unknowns that a line brings.
_BRINGS = {"free": ("1", "2"), "on": ("1",)}

# What the names in a sentence must be.
_ASKS = {"line": ("point", "point", "point"), "through": ("line", "line", "line"), "on": ("point", "line")}


def _is_coordinate(word):
    """True for an integer as a line with the word point has it."""
    return is_integer(word) and abs(int(word)) <= _MOST_COORDINATE


def _is_step(words, kinds):
    """True if the words are a line of a text behind others, which made things of these kinds."""
    if len(words) < 2 or words[1] in kinds or not is_name(words[1]):
        return False
    word, _, *rest = words
    if word == "point":
        return len(rest) == 3 and all([_is_coordinate(number) for number in rest])
    if word == "free":
        return not rest
    return word in _TAKES and [kinds.get(name) for name in rest] == list(_TAKES[word])


def _made(word, names, triples, values):
    """The triple that a line makes: of polynomials or of integers, as the triples and values that it names are."""
    if word not in _TAKES:
        return tuple([values[name] for name in names])
    first, second = triples[names[0]], triples[names[1]]
    if word == "on":
        by = values[names[2]]
        return tuple([m + n * by for m, n in zip(first, second)])
    return cross(first, second)


def _sides(word, triples):
    """What must be 0 so that a sentence about these triples is true: polynomials or integers, as theirs are."""
    if word == "same":
        first, second = triples
        return list(cross(first, second))
    if word == "on":
        point, line = triples
        return [dot(point, line)]
    first, second, third = triples
    return [volume(first, second, third)]


def _choices(size, most):
    """All lists of so many integers from 0 to most - 1, in ascending order."""
    found = [[]]
    for _ in range(size):
        found = [[*numbers, n] for numbers in found for n in range(most)]
    return found


class Drawing:
    """A drawing, which never changes, made from a text whose lines each make a point or a line of the plane."""

    def __init__(self, text):
        self._kinds = {}
        self._steps = []
        self._numbers = {}
        self._unknowns = []
        for at, row in enumerate(text.split("\n")):
            words = row.split(" ")
            if not _is_step(words, self._kinds):
                raise BadStep(at)
            self._put(words)
        values = {name: Many.unknown(name) for name in self._unknowns}
        for number in self._numbers:
            values[number] = Many.number(self._numbers[number])
        self._triples = {}
        for name, word, names in self._steps:
            self._triples[name] = _made(word, names, self._triples, values)

    def _put(self, words):
        """Puts a line behind the earlier ones; as a step it names all that its triple is made of."""
        word, name, *names = words
        brought = [f"{name}{end}" for end in _BRINGS.get(word, ())]
        if word == "free":
            names = [*brought, "1"]
        if word == "on":
            names = [*names, *brought]
        for number in names:
            if is_integer(number):
                self._numbers[number] = int(number)
        self._unknowns.extend(brought)
        self._steps.append((name, word, names))
        self._kinds[name] = _MAKES[word]

    def names(self):
        """The list of the names in the order of the lines."""
        return list(self._triples)

    def unknowns(self):
        """The list of the names of the unknowns in the order in which they come up."""
        return list(self._unknowns)

    def triple(self, name):
        """The triple of the three polynomials of a point or line."""
        if name not in self._triples:
            raise UnknownName(name)
        return self._triples[name]

    def _contents(self):
        """For each triple, the integer that is 0 exactly where the triple is."""
        return [content_of(self._triples[name]) for name in self._triples]

    def possible(self):
        """The set of the characteristics in which some field has an allowed choice."""
        return where_units(self._contents())

    def _asked(self, words):
        """The words for what the names in a sentence must be."""
        if words[0] == "same":
            # Anything may come first; so a name that nothing has is found to be wrong as such.
            kind = self._kinds.get(words[1], "point") if len(words) > 1 else "point"
            return kind, kind
        if words[0] not in _ASKS:
            raise BadText(0)
        return _ASKS[words[0]]

    def _read(self, sentence):
        """The tuple (word, names) of a sentence."""
        words = sentence.split(" ")
        asked = self._asked(words)
        for at, kind in enumerate(asked, start=1):
            if at == len(words) or self._kinds.get(words[at]) != kind:
                raise BadText(at)
        if len(words) > len(asked) + 1:
            raise BadText(len(asked) + 1)
        return words[0], words[1:]

    def always(self, sentence):
        """The set of the characteristics in which the drawing is possible and the sentence always true."""
        word, names = self._read(sentence)
        sides = _sides(word, [self._triples[name] for name in names])
        n = common_of([many.content() for many in sides])
        if n == 0:
            return self.possible()
        # Only the prime divisors that the contents have not are of use, and they are easier to find without the others.
        for content in self._contents():
            n = apart(n, content)
        return Chars.zero_of(n)

    def _drawn(self, choice, p):
        """The triples of integers by names that a choice gives in the characteristic p; None if it is not allowed."""
        values = {**choice, **self._numbers}
        found = {}
        for name, word, names in self._steps:
            x, y, z = _made(word, names, found, values)
            found[name] = (remainder(x, p), remainder(y, p), remainder(z, p))
            if found[name] == (0, 0, 0):
                return None
        return found

    def _is_true(self, word, names, choice, p):
        """What holds returns, for a sentence that is read and p that is checked already."""
        triples = self._drawn(choice, p)
        if triples is None:
            return None
        return all([remainder(n, p) == 0 for n in _sides(word, [triples[name] for name in names])])

    def holds(self, sentence, choice, *, p):
        """True or False as the sentence is for a choice in the characteristic p, or None if it is not allowed."""
        checked(p)
        word, names = self._read(sentence)
        for name in self._unknowns:
            if name not in choice:
                raise UnknownName(name)
        return self._is_true(word, names, choice, p)

    def breaking(self, sentence, *, p, most=3):
        """The first allowed choice of integers less than most that makes the sentence untrue, or None."""
        checked(p)
        word, names = self._read(sentence)
        for numbers in _choices(len(self._unknowns), most):
            choice = dict(zip(self._unknowns, numbers))
            if self._is_true(word, names, choice, p) is False:
                return choice
        return None
