"""Divisors, primes and inverses of integers, and the digits of integers of any length."""

from grainmeet.errors import InvalidNumber

MOST_FACTORED = 1000000000

# Python itself converts only some thousands of digits at once, so long integers are cut into pieces.
PIECE_DIGITS = 64
PIECE = 10 ** 64


def is_number(value):
    """Whether a value is an integer; True and False are none."""
    return isinstance(value, int) and not isinstance(value, bool)


def common(one, other):
    """The greatest common divisor, which is not negative."""
    greater, lesser = abs(one), abs(other)
    while lesser:
        greater, lesser = lesser, greater % lesser
    return greater


def exponent_in(number, prime):
    """How often a prime divides a positive number."""
    exponent = 0
    rest = number
    while rest % prime == 0:
        exponent += 1
        rest = rest // prime
    return exponent


def powers(prime, exponent):
    """The list of the powers of a prime, from 1 up to the one with the exponent."""
    found = [1]
    while len(found) <= exponent:
        found.append(found[-1] * prime)
    return found


def factor(number):
    """The list of pairs of a prime and its exponent, in ascending order."""
    if not is_number(number) or not 1 <= number <= MOST_FACTORED:
        raise InvalidNumber(number)
    pairs = []
    rest = number
    prime = 2
    while prime * prime <= rest:
        if rest % prime == 0:
            exponent = exponent_in(rest, prime)
            pairs.append((prime, exponent))
            rest = rest // powers(prime, exponent)[-1]
        prime += 1
    if rest > 1:
        pairs.append((rest, 1))
    return pairs


def primes_of(number):
    """The list of the primes in ascending order, each as often as it divides."""
    primes = []
    for prime, exponent in factor(number):
        primes.extend([prime] * exponent)
    return primes


def least_prime(number):
    """The least prime that divides a number, which is greater than 1."""
    if number % 2 == 0:
        return 2
    prime = 3
    while prime * prime <= number:
        if number % prime == 0:
            return prime
        prime += 2
    return number


def divisors(number):
    """The list of all positive divisors in ascending order."""
    found = [1]
    for prime, exponent in factor(number):
        steps = powers(prime, exponent)
        found = [divisor * power for divisor in found for power in steps]
    return sorted(found)


def inverse(number, modulus):
    """The integer whose product with the number is 1 more than a multiple of the modulus, or None."""
    rest, new_rest = modulus, number % modulus
    # Each rest is its times multiplied by the number, up to multiples of the modulus.
    times, new_times = 0, 1
    while new_rest:
        quotient = rest // new_rest
        rest, new_rest = new_rest, rest - quotient * new_rest
        times, new_times = new_times, times - quotient * new_times
    if rest != 1:
        return None
    return times % modulus


def digits_of(number):
    """The digits of an integer that is not negative."""
    pieces = []
    rest = number
    while rest >= PIECE:
        rest, piece = divmod(rest, PIECE)
        pieces.append(str(piece).zfill(PIECE_DIGITS))
    pieces.append(str(rest))
    return "".join(pieces[::-1])


def integer_text(number):
    """The digits of an integer, with a sign before those of a negative one."""
    sign = "-" if number < 0 else ""
    return f"{sign}{digits_of(abs(number))}"


def are_digits(text):
    """Whether a text consists of digits, at least one."""
    return text.isascii() and text.isdigit()


def number_with(digits):
    """The integer that a text of digits tells."""
    # The first piece is the short one, so that each later piece moves the number by the same power.
    start = len(digits) % PIECE_DIGITS
    number = int(digits[:start]) if start else 0
    for at in range(start, len(digits), PIECE_DIGITS):
        number = number * PIECE + int(digits[at:at + PIECE_DIGITS])
    return number
