"""Grains: copies of the whole grid that are turned about the origin."""

from grainmeet.division import associate, part_left
from grainmeet.errors import InvalidRing
from grainmeet.fours import Four
from grainmeet.numbers import common
from grainmeet.rows import common_of, dotted, moved
from grainmeet.turns import Turn


class Grain:
    """A grain, which never changes."""

    def __init__(self, turn):
        four = associate(odd_four(turn.four))
        # The greatest halves begin with a positive one, so the four of this turn is the four of the grain.
        self.chosen = Turn(four)

    @staticmethod
    def plain():
        """The whole grid."""
        return Grain(Turn.still())

    @staticmethod
    def of_ring(number, row):
        """The grain with a ring."""
        if not is_ring(number, row):
            raise InvalidRing(number)
        x, y, z = [element % number for element in row]
        # Read as xi + yj + zk, the row has the four of the grain as a left divisor, and so does the number.
        return Grain(Turn(part_left(Four(0, 2 * x, 2 * y, 2 * z), number)))

    @property
    def four(self):
        """Of the fours of odd size and content 1 whose turns give the grain, the one with the greatest halves."""
        return self.chosen.four

    @property
    def turn(self):
        """The turn of the four of the grain."""
        return self.chosen

    @property
    def spread(self):
        """The spread of the whole grid and the grain."""
        return self.chosen.spread

    def coordinates(self, point):
        """The point that the turn of the grain takes to a whole point, or None if this does not belong to the grain."""
        place, number = (-self.chosen).image(point)
        return place if number == 1 else None

    def ring(self):
        """A ring of the grain: a point belongs if its product with the row is a multiple of the number."""
        number = self.spread
        # All rows of this table are multiples of one row, up to multiples of the number; together they lack no prime.
        first, second, third = (-self.chosen).rows()
        row = mixed(mixed(first, second, number), third, number)
        return number, tuple([element % number for element in row])

    def turned(self, turn):
        """The grain that a turn makes of this one."""
        return Grain(turn * self.chosen)

    def __contains__(self, point):
        return self.coordinates(point) is not None

    def __eq__(self, other):
        return isinstance(other, Grain) and self.chosen == other.chosen

    def __repr__(self):
        return f"Grain({self.chosen.four.text()})"


def relative(one, other):
    """The grain that other is in the coordinates of one."""
    return Grain(-one.turn * other.turn)


def spread(one, other):
    """The spread of two grains."""
    turn = -one.turn * other.turn
    return turn.spread


def is_ring(number, row):
    """Whether a number and a row are a ring."""
    if number <= 0 or number % 2 == 0:
        return False
    return common(number, common_of(row)) == 1 and dotted(row, row) % number == 0


def odd_four(four):
    """A four of odd size and content 1 that gives the same grain as a four of content 1."""
    if four.size % 2:
        return four
    # An even size comes from a factor 1+i at the end; with another one they make 2i.
    return (four * Four(2, 2, 0, 0)).divided(2)


def mixed(one, other, number):
    """A sum of multiples of two rows; a prime of the number divides all of it only if it divides all of both."""
    return moved(one, other, freed(number, common_of(one)))


def freed(number, other):
    """The greatest divisor of a number that has no prime in common with another number."""
    rest = number
    shared = common(rest, other)
    while shared > 1:
        rest = rest // shared
        shared = common(rest, other)
    return rest
