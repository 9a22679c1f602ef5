"""Turns about the origin with a table of fractions, each told by a four."""

from grainmeet.errors import InvalidFour
from grainmeet.fours import Four
from grainmeet.rows import common_of, dotted

# The halves of the fours of the turns with spread 1, in ascending order.
CUBE = (
    (0, 0, 0, 2), (0, 0, 2, -2), (0, 0, 2, 0), (0, 0, 2, 2),
    (0, 2, -2, 0), (0, 2, 0, -2), (0, 2, 0, 0), (0, 2, 0, 2), (0, 2, 2, 0),
    (1, -1, -1, -1), (1, -1, -1, 1), (1, -1, 1, -1), (1, -1, 1, 1),
    (1, 1, -1, -1), (1, 1, -1, 1), (1, 1, 1, -1), (1, 1, 1, 1),
    (2, -2, 0, 0), (2, 0, -2, 0), (2, 0, 0, -2), (2, 0, 0, 0), (2, 0, 0, 2), (2, 0, 2, 0), (2, 2, 0, 0),
)


class Turn:
    """A turn, which never changes."""

    def __init__(self, four):
        if not four:
            raise InvalidFour((0, 0, 0, 0))
        self.lead = lead_of(four)

    @staticmethod
    def still():
        """The turn that moves nothing."""
        return Turn(Four.whole(1))

    @staticmethod
    def cube():
        """The list of the turns with spread 1, in ascending order of the halves of their fours."""
        return [turn_with(halves) for halves in CUBE]

    @staticmethod
    def read(text):
        """The turn of the four with a text."""
        return Turn(Four.read(text))

    @property
    def four(self):
        """The four of content 1 whose first half that is not zero is positive."""
        return self.lead

    @property
    def spread(self):
        """The least positive integer that makes the table a table of integers."""
        size = self.lead.size
        # A four of content 1 has an odd size, or twice an odd one; then it is another four times 1+i, which only
        # adds a turn of the cube.
        return size if size % 2 else size // 2

    def rows(self):
        """The list of the three rows of the table times the spread."""
        a, b, c, d = self.lead.halves
        # The sums below are those for the parts, times 4; they are to be divided by the size, times the spread.
        scale = 4 * self.lead.size // self.spread
        table = [
            (a * a + b * b - c * c - d * d, 2 * (b * c - a * d), 2 * (b * d + a * c)),
            (2 * (b * c + a * d), a * a - b * b + c * c - d * d, 2 * (c * d - a * b)),
            (2 * (b * d - a * c), 2 * (c * d + a * b), a * a - b * b - c * c + d * d),
        ]
        return [(x // scale, y // scale, z // scale) for x, y, z in table]

    def image(self, point):
        """The turned point: a pair of three integers and the positive integer that divides them, in lowest terms."""
        spread = self.spread
        x, y, z = [dotted(row, point) for row in self.rows()]
        shared = common_of((x, y, z, spread))
        return (x // shared, y // shared, z // shared), spread // shared

    def power(self, times):
        """The turn done so many times, or its inverse for a negative number."""
        step = self if times > 0 else -self
        done = Turn.still()
        for time in range(abs(times)):
            done = done * step
        return done

    def __call__(self, point):
        return self.image(point)

    def __mul__(self, other):
        return Turn(self.lead * other.lead)

    def __neg__(self):
        return Turn(self.lead.mirrored())

    def __eq__(self, other):
        return isinstance(other, Turn) and self.lead == other.lead

    def __repr__(self):
        return f"Turn({self.lead.text()})"


def turn_with(halves):
    """The turn of the four with these halves."""
    return Turn(Four(*halves))


def lead_of(four):
    """The four of the turn of a four that is not zero."""
    lead = four.divided(four.content())
    return -lead if lead.halves < (0, 0, 0, 0) else lead
