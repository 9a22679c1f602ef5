"""The grains of a spread: how many there are, and all of them in order."""

from grainmeet.errors import InvalidNumber
from grainmeet.grains import Grain
from grainmeet.numbers import factor, is_number, primes_of

MOST_LISTED = 99


def count_at(number):
    """How many grains have a spread."""
    pairs = factor(number)
    if number % 2 == 0:
        return 0
    count = number
    for prime, exponent in pairs:
        count = count // prime * (prime + 1)
    return count


def leans(prime):
    """The list of the grains whose spread is an odd prime, in ascending order of the halves of their fours."""
    return in_order([Grain.of_ring(prime, row) for row in lean_rows(prime)])


def lean_rows(prime):
    """The list of the rows of the rings with an odd prime, one for each grain."""
    # A row has multiples that begin with 1, or with 0 and 1; a row that ends with its first 1 would be no ring.
    short = [(0, 1, z) for z in range(prime) if (1 + z * z) % prime == 0]
    return short + [(1, y, z) for y in range(prime) for z in range(prime) if (1 + y * y + z * z) % prime == 0]


def grains_at(number):
    """The list of all grains with a spread, in ascending order of the halves of their fours."""
    if not is_number(number) or not 1 <= number <= MOST_LISTED:
        raise InvalidNumber(number)
    if number % 2 == 0:
        return []
    found = [Grain.plain()]
    reached = 1
    for prime in primes_of(number):
        reached = reached * prime
        found = further(found, prime, reached)
    return in_order(found)


def further(grains, prime, reached):
    """The list of the grains one step of a prime from all grains of some spread that have the spread reached by it."""
    steps = leans(prime)
    # Each of these has just one grain of the lesser spread between it and the whole grid, so none is found twice.
    after = [step.turned(grain.turn) for grain in grains for step in steps]
    return [grain for grain in after if grain.spread == reached]


def in_order(grains):
    """The list of some grains in ascending order of the halves of their fours."""
    return sorted(grains, key=halves_of)


def halves_of(grain):
    """The halves of the four of a grain."""
    return grain.four.halves


def near(grain, number):
    """Yields all grains whose spread with a grain is a number, in the order of grains_at in its coordinates."""
    for other in grains_at(number):
        yield other.turned(grain.turn)
