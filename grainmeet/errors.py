"""The errors of the package.

Each error keeps what it is about in its field, and the name of its class in `tag`.
The messages leave the value out: Python refuses to write integers of some thousands of digits.
"""


class GrainError(ValueError):
    """The base of the errors for values that are not allowed."""

    def __init__(self, tag, why):
        ValueError.__init__(self, why)
        self.tag = tag


class Missing(LookupError):
    """The base of the errors for what is not there."""

    def __init__(self, tag, why):
        LookupError.__init__(self, why)
        self.tag = tag


class InvalidFour(GrainError):
    """The values are not the halves of a four, or of none that is allowed here."""

    def __init__(self, given):
        GrainError.__init__(self, "InvalidFour", "not the halves of an allowed four")
        self.given = given


class InvalidNumber(GrainError):
    """The number is not allowed here."""

    def __init__(self, given):
        GrainError.__init__(self, "InvalidNumber", "not an allowed number")
        self.given = given


class InvalidRing(GrainError):
    """The number and its row are not a ring."""

    def __init__(self, number):
        GrainError.__init__(self, "InvalidRing", "not a ring of any grain")
        self.number = number


class InvalidOrder(GrainError):
    """The list does not have just the primes of a spread."""

    def __init__(self, given):
        GrainError.__init__(self, "InvalidOrder", "not an order of the primes of the spread")
        self.given = given


class NotApart(GrainError):
    """Grains that should have coprime spreads have a prime in common."""

    def __init__(self, prime):
        GrainError.__init__(self, "NotApart", "the spreads have a prime in common")
        self.prime = prime


class TooFar(GrainError):
    """The spread of two grains of a block would exceed the limit."""

    def __init__(self, most):
        GrainError.__init__(self, "TooFar", "a spread would exceed the limit")
        self.most = most


class InvalidLimit(GrainError):
    """The number cannot be the limit of the block."""

    def __init__(self, given):
        GrainError.__init__(self, "InvalidLimit", "not an allowed limit of the block")
        self.given = given


class InvalidName(GrainError):
    """The string cannot be a name."""

    def __init__(self, name):
        GrainError.__init__(self, "InvalidName", "not 1 to 8 lowercase letters")
        self.name = name


class DuplicateName(GrainError):
    """A grain has the name already."""

    def __init__(self, name):
        GrainError.__init__(self, "DuplicateName", "a grain has this name already")
        self.name = name


class DuplicateMark(GrainError):
    """The point is marked already."""

    def __init__(self, point):
        GrainError.__init__(self, "DuplicateMark", "the point is marked already")
        self.point = point


class CapacityExceeded(GrainError):
    """There would be more than the most that is allowed."""

    def __init__(self, most):
        GrainError.__init__(self, "CapacityExceeded", "there is no room for one more")
        self.most = most


class InvalidCommand(GrainError):
    """The tuple does not have the form of a command."""

    def __init__(self, first):
        GrainError.__init__(self, "InvalidCommand", "not a command")
        self.first = first


class ParseError(GrainError):
    """The text does not have its form; `at` tells where."""

    def __init__(self, at):
        GrainError.__init__(self, "ParseError", "the text cannot be read")
        self.at = at


class UnknownName(Missing):
    """Nothing has the name."""

    def __init__(self, name):
        Missing.__init__(self, "UnknownName", "nothing has this name")
        self.name = name


class UnknownMark(Missing):
    """The point is not marked."""

    def __init__(self, point):
        Missing.__init__(self, "UnknownMark", "the point is not marked")
        self.point = point


class NothingLeft(IndexError):
    """There is nothing left to take."""

    def __init__(self):
        IndexError.__init__(self, "nothing is left")
        self.tag = "NothingLeft"
