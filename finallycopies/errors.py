"""The errors of the package. Their fields are the values that they are created from."""


class CopyError(ArithmeticError):
    """What all errors of the package have in common."""


class InvalidCode(CopyError):
    """An object is not a statement; number is its number in preorder."""

    def __init__(self, number):
        self.number = number


class InvalidNumber(CopyError):
    """A value is not the number that is asked for: of a statement, a place, a final or an address."""

    def __init__(self, number):
        self.number = number


class InvalidAnswers(CopyError):
    """Answers are wrong; at is the first wrong index, or -1."""

    def __init__(self, at):
        self.at = at


class InvalidWay(CopyError):
    """A value is not one of the ways in which a statement can be left."""

    def __init__(self, way):
        self.way = way


class InvalidTable(CopyError):
    """A table of jumps is wrong; at is the first wrong index, or -1."""

    def __init__(self, at):
        self.at = at


class InvalidFinals(CopyError):
    """A list of finals is wrong; at is the first wrong index, or -1."""

    def __init__(self, at):
        self.at = at


class InvalidBound(CopyError):
    """A value is not a number that may be asked for here."""

    def __init__(self, bound):
        self.bound = bound


class InvalidText(CopyError):
    """A text is wrong; at is the index of its first wrong word, or -1."""

    def __init__(self, at):
        self.at = at


class NotWaiting(CopyError):
    """A run has ended and takes no answer; end is the text of its end."""

    def __init__(self, end):
        self.end = end


class LimitExceeded(CopyError):
    """There is more of something than the limit."""

    def __init__(self, limit):
        self.limit = limit
