"""Reports about an unknown field, of which nothing but its characteristic is asked."""

from everyfield.chars import Chars
from everyfield.errors import Contradiction, NameTaken, NothingToUndo, UnknownName

MOST_PRIME = 1000


def in_all(sets):
    """The set of the characteristics that are in all the sets."""
    found = Chars.every()
    for chars in sets:
        found = found & chars
    return found


def clash_of(known, sets):
    """The indices of sets that leave no characteristic of the known set, without those that are not needed for it."""
    left = list(range(len(sets)))
    for at in range(len(sets)):
        rest = [k for k in left if k != at]
        if not in_all([known] + [sets[k] for k in rest]):
            left = rest
    return left


def verdict_of(fits, found):
    """The word for a question: whether all, none or some of the characteristics that fit are in the found set."""
    if not fits - found:
        return "sure"
    if not fits & found:
        return "never"
    return "open"


def told(found, holds):
    """The set of the characteristics in which it is right to say that the found set holds, or that it does not."""
    if holds:
        return found
    return ~found


def _greater_part(members, question):
    """How many of the members are in the question or not in it, whichever is more."""
    inside = len([p for p in members if p in question])
    return max(inside, len(members) - inside)


class Book:
    """A book of reports about one unknown field, which always leave some characteristic."""

    def __init__(self):
        self._reports = []

    def tell(self, found, holds, *, name=""):
        """Adds the report that the characteristic is in the set, or that it is not."""
        if name != "" and self._index_of(name) is not None:
            raise NameTaken(name)
        sets = [*self._parts(), told(found, holds)]
        if not in_all(sets):
            raise Contradiction(clash_of(Chars.every(), sets))
        self._reports.append((found, holds, name))

    def take_back(self):
        """Removes the last report."""
        if not self._reports:
            raise NothingToUndo()
        self._reports.pop()

    def _parts(self):
        """For each report the set of the characteristics that fit it."""
        return [told(found, holds) for found, holds, _ in self._reports]

    def _index_of(self, name):
        """The index of the first report with this name, or None."""
        for at, report in enumerate(self._reports):
            if report[2] == name:
                return at
        return None

    def fits(self):
        """The set of the characteristics that fit all reports."""
        return in_all(self._parts())

    def reports(self):
        """The list of the reports in order, as tuples (found, holds, name)."""
        return list(self._reports)

    def named(self, name):
        """The index of the report with this name."""
        at = self._index_of(name)
        # A report without a name has the empty string in its place.
        if name == "" or at is None:
            raise UnknownName(name)
        return at

    def verdict(self, found):
        """The string sure, never or open, as all, none or some of the characteristics that fit are in the set."""
        return verdict_of(self.fits(), found)

    def needless(self):
        """The ascending list of the reports each of which alone changes nothing of what fits."""
        sets = self._parts()
        fits = in_all(sets)
        return [at for at in range(len(sets)) if in_all(sets[:at] + sets[at + 1:]) == fits]

    def best(self, *questions, most=MOST_PRIME):
        """The index of the question that leaves the fewest of the characteristics up to most, or None."""
        fits = self.fits()
        members = list(fits.upto(most))
        if 0 in fits:
            members.append(0)
        parts = [_greater_part(members, question) for question in questions]
        if not parts:
            return None
        return parts.index(min(parts))
