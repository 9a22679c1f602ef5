"""Shortest ways between grains, the grains on them, and the parts of a grain."""

from grainmeet.division import common_left, part_left
from grainmeet.errors import InvalidNumber, InvalidOrder, NotApart
from grainmeet.grains import Grain, relative, spread
from grainmeet.numbers import MOST_FACTORED, common, divisors, factor, is_number, least_prime, powers, primes_of
from grainmeet.turns import Turn


def part(grain, prime):
    """The grain between the whole grid and a grain whose spread is the power of an odd prime in the grain's."""
    if not is_odd_prime(prime):
        raise InvalidNumber(prime)
    exponents = dict(factor(grain.spread))
    power = powers(prime, exponents.get(prime, 0))[-1]
    return grain_between(Grain.plain(), grain, power)


def is_odd_prime(number):
    """Whether a value is an odd prime that can be factored."""
    if not is_number(number) or not 3 <= number <= MOST_FACTORED:
        return False
    return factor(number) == [(number, 1)]


def joined(*grains):
    """The grain between which and the whole grid all of some grains with coprime spreads are."""
    whole = Grain.plain()
    for grain in grains:
        shared = common(whole.spread, grain.spread)
        if shared > 1:
            raise NotApart(least_prime(shared))
        # From the one of two such grains, the other one's spread leads to the grain of both, on a way to the other.
        whole = grain_between(whole, grain, grain.spread)
    return whole


def grain_between(one, other, number):
    """The grain between two whose spread from the first one is a divisor of the spread of both."""
    # In the coordinates of the first one, the grains between them have the left divisors of the other's four.
    return placed(one, part_left(relative(one, other).four, number))


def placed(grain, four):
    """The grain that has a four in the coordinates of a grain."""
    return Grain(grain.turn * Turn(four))


def way(one, other, *, primes=None):
    """The list of the grains of the shortest way with the given primes in the given order, or in ascending order."""
    needed = primes_of(spread(one, other))
    order = needed if primes is None else list(primes)
    if sorted(order) != needed:
        raise InvalidOrder(order)
    grains = [one]
    reached = 1
    for prime in order:
        reached = reached * prime
        grains.append(grain_between(one, other, reached))
    return grains


def is_way(one, other, grains):
    """Whether a list is a shortest way between two grains."""
    needed = primes_of(spread(one, other))
    if not grains or grains[0] != one or grains[-1] != other:
        return False
    return sorted([spread(start, end) for start, end in zip(grains, grains[1:])]) == needed


def ways_count(one, other):
    """How many shortest ways there are between two grains: the number of orders of the primes of their spread."""
    count = 1
    placed_before = 0
    for prime, exponent in factor(spread(one, other)):
        for same_before in range(exponent):
            # Times all places that the next prime may take, divided by those that make no difference.
            count = count * (placed_before + 1) // (same_before + 1)
            placed_before += 1
    return count


def between(one, other):
    """Yields all grains between two, by ascending spread from the first one."""
    for number in divisors(spread(one, other)):
        yield grain_between(one, other, number)


def is_between(one, other, grain):
    """Whether a grain is between two."""
    return spread(one, grain) * spread(grain, other) == spread(one, other)


def midst(one, two, three):
    """The grain that is between any two of three."""
    # In the coordinates of the first one, the ways to the two others go together up to their common left divisor.
    return placed(one, common_left(relative(one, two).four, relative(one, three).four))


def is_midst(one, two, three, grain):
    """Whether a grain is between any two of three."""
    return all([is_between(one, two, grain), is_between(one, three, grain), is_between(two, three, grain)])
