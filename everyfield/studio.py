"""A drawing that is made live, in a field of which nothing is known at first."""

from everyfield.chars import Chars
from everyfield.drawings import Drawing
from everyfield.errors import BadStep, BadText, Contradiction, NothingToUndo
from everyfield.reports import clash_of, in_all, told, verdict_of


class Studio:
    """A drawing that grows line by line, with the sentences that were seen to be true in it or not."""

    def __init__(self):
        self._rows = []
        # None stands for the drawing without lines, which no text describes.
        self._drawing = None
        self._seen = []
        self._sets = []
        self._deeds = []

    def _possible(self):
        """The set of the characteristics in which the drawing is possible."""
        if self._drawing is None:
            return Chars.every()
        return self._drawing.possible()

    def _always(self, sentence):
        """The set of the characteristics in which the sentence is always true in the drawing."""
        if self._drawing is None:
            raise BadText(0)
        return self._drawing.always(sentence)

    def add(self, row):
        """Adds a line to the text of the drawing."""
        if "\n" in row:
            raise BadStep(len(self._rows))
        rows = [*self._rows, row]
        drawing = Drawing("\n".join(rows))
        if not self.fits() & drawing.possible():
            raise Contradiction([])
        self._rows, self._drawing = rows, drawing
        self._deeds.append("add")

    def see(self, sentence, holds):
        """Says that the sentence is always true in the unknown field, or that it is not."""
        found = told(self._always(sentence), holds)
        possible, sets = self._possible(), [*self._sets, found]
        if not in_all([possible, *sets]):
            raise Contradiction(clash_of(possible, sets))
        self._seen.append((sentence, holds))
        self._sets = sets
        self._deeds.append("see")

    def undo(self):
        """Takes back the last deed."""
        if not self._deeds:
            raise NothingToUndo()
        if self._deeds.pop() == "see":
            self._seen.pop()
            self._sets.pop()
        else:
            self._rows.pop()
            self._drawing = Drawing(self.text()) if self._rows else None

    def fits(self):
        """The set of the characteristics that fit the drawing and all that was seen."""
        return in_all([self._possible(), *self._sets])

    def asks(self, sentence):
        """The string sure, never or open, as the sentence is always true in all, none or some of what fits."""
        return verdict_of(self.fits(), self._always(sentence))

    def text(self):
        """The text of the drawing; it is empty without lines."""
        return "\n".join(self._rows)

    def seen(self):
        """The list of the seen sentences in order, as tuples (sentence, holds)."""
        return list(self._seen)
