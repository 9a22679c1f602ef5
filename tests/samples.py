"""What several tests share: samples, and the document's definitions computed with fractions."""

import itertools
import random
from fractions import Fraction

from grainmeet.fours import Four
from grainmeet.grains import Grain
from grainmeet.turns import Turn

AXES = ((1, 0, 0), (0, 1, 0), (0, 0, 1))


def is_four(halves):
    return len({half % 2 for half in halves}) == 1


def small_fours(bound):
    """All fours whose halves are from -bound to bound."""
    span = range(-bound, bound + 1)
    return [Four(*halves) for halves in itertools.product(span, repeat=4) if is_four(halves)]


def some_fours(seed, many, most=10 ** 9 - 3):
    """Fours with halves of all lengths, even ones and odd ones."""
    source = random.Random(seed)
    found = []
    while len(found) < many:
        bound = source.choice((1, 3, 10, 1000, most // 2))
        rest = source.randint(0, 1)
        found.append(Four(*[2 * source.randint(-bound, bound) + rest for place in range(4)]))
    return found


def some_turns(seed, many, most=10 ** 9 - 3):
    """Turns of fours with halves of all lengths."""
    return [Turn(four) for four in some_fours(seed, 2 * many + 10, most) if four][:many]


def some_grains(seed, many, most=10 ** 9 - 3):
    """Grains of such turns."""
    return [Grain(turn) for turn in some_turns(seed, many, most)]


def some_points(seed, many, most=30):
    """Points with coordinates of both signs, the origin among them."""
    source = random.Random(seed)
    found = [tuple([source.randint(-most, most) for place in range(3)]) for time in range(many - 1)]
    return [(0, 0, 0), *found]


def carried(four, point):
    """The point that the turn of a four makes of a point: three fractions, by the product of the document."""
    x, y, z = point
    product = four * Four(0, 2 * x, 2 * y, 2 * z) * four.mirrored()
    assert product.halves[0] == 0
    return tuple([Fraction(half, 2 * four.size) for half in product.halves[1:]])


def table_of(four):
    """The rows of the table of the turn of a four, as fractions."""
    return list(zip(*[carried(four, axis) for axis in AXES]))


def applied(table, point):
    """The point that a table makes of a point."""
    return tuple([sum(entry * element for entry, element in zip(row, point)) for row in table])


def fractions_of(image):
    """The fractions that a pair of a tuple and a divisor tells."""
    return tuple([Fraction(element, image[1]) for element in image[0]])


def belongs(four, point):
    """Whether a whole point belongs to the grain of the turn of a four."""
    return all(part.denominator == 1 for part in carried(four.mirrored(), point))


def primes_in(number):
    """The list of the primes of a positive number, each as often as it divides."""
    found = []
    prime = 2
    while number > 1:
        if prime * prime > number:
            prime = number
        if number % prime == 0:
            number //= prime
            found.append(prime)
        else:
            prime += 1
    return found


def box(bound):
    """All points with coordinates from -bound to bound, in ascending order."""
    return list(itertools.product(range(-bound, bound + 1), repeat=3))
