"""Left division of fours: quotients, rests and common left divisors."""

from grainmeet.errors import InvalidFour
from grainmeet.fours import Four


def divide_left(one, other):
    """A pair (quotient, rest) with one = other * quotient + rest and a rest of lesser size than other."""
    if not other:
        raise InvalidFour((0, 0, 0, 0))
    pairs = [(quotient, one - other * quotient) for quotient in near_quotients(one, other)]
    return min(pairs, key=size_of_rest)


def near_quotients(one, other):
    """The two fours near the fraction that solves one = other * fraction: one of integers, one of halves."""
    size = other.size
    exact = (other.mirrored() * one).halves
    even = [2 * ((half + size) // (2 * size)) for half in exact]
    odd = [2 * (half // (2 * size)) + 1 for half in exact]
    # A part that is off by x in the one is off by 1/2 - x in the other, so one of both is off by a size of at most 1/2.
    return [Four(*even), Four(*odd)]


def size_of_rest(pair):
    """The size of the rest in a pair of a quotient and a rest."""
    return pair[1].size


def associate(four):
    """Of the products of a four and a unit, the one with the greatest halves."""
    greatest = max([(four * unit).halves for unit in Four.units()])
    return Four(*greatest)


def common_left(one, other):
    """The greatest common left divisor of two fours, zero if both are zero."""
    divisor, rest = one, other
    while rest:
        divisor, rest = rest, divide_left(divisor, rest)[1]
    return associate(divisor)


def part_left(four, number):
    """The greatest common left divisor of a four and an integer that is not 0."""
    return common_left(four, Four.whole(number))


def divides_left(one, other):
    """Whether one is a left divisor of other."""
    # The nearest quotient is the exact one, if there is one.
    return not divide_left(other, one)[1]
