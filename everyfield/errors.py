"""The errors of the program, all directly below FieldError.

No message contains a number of any size: Python refuses to write integers of
more than 4300 digits, and then the wrong error would be seen.
"""


class FieldError(ValueError):
    """Any error that the program raises by itself."""


class BadNumber(FieldError):
    """The integer n cannot stand here."""

    def __init__(self, n):
        FieldError.__init__(self, "this number cannot stand here")
        self.n = n


class BadCharacteristic(FieldError):
    """The integer p is not a characteristic that can stand here."""

    def __init__(self, p):
        FieldError.__init__(self, "this number is not a characteristic that can stand here")
        self.p = p


class BadText(FieldError):
    """The word with the index at cannot stand at its place, or is missing."""

    def __init__(self, at):
        FieldError.__init__(self, f"the text is not of the right form at index {at}")
        self.at = at


class BadRow(FieldError):
    """The row with the index at has not as many integers as row 0."""

    def __init__(self, at):
        FieldError.__init__(self, f"the row with index {at} is not as long as the first one")
        self.at = at


class UnlikeShapes(FieldError):
    """Two shapes do not go together."""

    def __init__(self, first, second):
        FieldError.__init__(self, f"the shapes {first} and {second} do not go together")
        self.first = first
        self.second = second


class NotSquare(FieldError):
    """A matrix has not as many rows as columns."""

    def __init__(self, height, width):
        FieldError.__init__(self, f"a matrix with {height} rows and {width} columns is not square")
        self.height = height
        self.width = width


class NoSolution(FieldError):
    """A system has no solution."""

    def __init__(self):
        FieldError.__init__(self, "there is no solution")


class NoInverse(FieldError):
    """Something has no inverse."""

    def __init__(self):
        FieldError.__init__(self, "there is no inverse")


class BadStep(FieldError):
    """The step with the index at is not a right one."""

    def __init__(self, at):
        FieldError.__init__(self, f"the step with index {at} is not a right one")
        self.at = at


class UnknownName(FieldError):
    """Nothing has this name."""

    def __init__(self, name):
        FieldError.__init__(self, f"nothing has the name {name}")
        self.name = name


class NameTaken(FieldError):
    """Something else has this name already."""

    def __init__(self, name):
        FieldError.__init__(self, f"the name {name} is taken")
        self.name = name


class Contradiction(FieldError):
    """No characteristic fits; clash is the list of the indices that clash."""

    def __init__(self, clash):
        FieldError.__init__(self, "no characteristic fits all of this")
        self.clash = list(clash)


class NothingToUndo(FieldError):
    """Nothing is there that could be taken back."""

    def __init__(self):
        FieldError.__init__(self, "there is nothing to take back")
