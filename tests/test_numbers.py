"""Divisors, primes, inverses and digits of integers."""

import math
import random
import unittest

from grainmeet.errors import InvalidNumber
from grainmeet.numbers import (
    are_digits, common, digits_of, divisors, factor, integer_text, inverse, is_number, number_with, primes_of,
)

MOST = 10 ** 9
FACTORED = {
    1: [],
    2: [(2, 1)],
    3: [(3, 1)],
    4: [(2, 2)],
    12: [(2, 2), (3, 1)],
    97: [(97, 1)],
    1001: [(7, 1), (11, 1), (13, 1)],
    2 ** 29: [(2, 29)],
    3 ** 18: [(3, 18)],
    31607 ** 2: [(31607, 2)],
    31601 * 31607: [(31601, 1), (31607, 1)],
    2 * 499999993: [(2, 1), (499999993, 1)],
    223092870: [(2, 1), (3, 1), (5, 1), (7, 1), (11, 1), (13, 1), (17, 1), (19, 1), (23, 1)],
    735134400: [(2, 6), (3, 3), (5, 2), (7, 1), (11, 1), (13, 1), (17, 1)],
    999999937: [(999999937, 1)],
    MOST: [(2, 9), (5, 9)],
}
REFUSED = [0, -1, -2, -7, -MOST, MOST + 1, MOST + 2, 10 ** 30 - 1, 10 ** 9000, True, False]


def samples(seed, many):
    """Integers of all lengths up to nine digits, with both signs, and zero."""
    source = random.Random(seed)
    numbers = [0, 1, -1, 2, -2, MOST - 1, 1 - MOST]
    while len(numbers) < many:
        numbers.append(source.choice((1, -1)) * source.randrange(10 ** source.randint(1, 9)))
    return numbers


class Common(unittest.TestCase):
    def test_pairs(self):
        for one in samples(1, 60):
            for other in samples(2, 60):
                self.assertEqual(common(one, other), math.gcd(one, other), (one, other))

    def test_pairs_with_a_common_factor(self):
        for factor_of_both in (2, 6, 9973, 10 ** 5):
            for one in range(-12, 13):
                for other in range(-12, 13):
                    pair = one * factor_of_both, other * factor_of_both
                    self.assertEqual(common(*pair), math.gcd(*pair), pair)

    def test_zero(self):
        self.assertEqual(common(0, 0), 0)
        self.assertEqual(common(0, -6), 6)
        self.assertEqual(common(-6, 0), 6)

    def test_long_integers(self):
        self.assertEqual(common(6 ** 500, -(10 ** 400)), 2 ** 400)

    def test_keywords(self):
        self.assertEqual(common(one=-12, other=18), 6)
        self.assertEqual(common(other=18, one=27), 9)


class Factor(unittest.TestCase):
    def test_table(self):
        for number, pairs in FACTORED.items():
            self.assertEqual(factor(number), pairs, number)
            primes = [prime for prime, many in pairs for time in range(many)]
            self.assertEqual(primes_of(number), primes, number)

    def test_all_small_numbers(self):
        for number in range(1, 1500):
            pairs = factor(number)
            product = 1
            for prime, exponent in pairs:
                self.assertTrue(all(prime % lesser for lesser in range(2, prime)), number)
                self.assertGreaterEqual(exponent, 1)
                product *= prime ** exponent
            self.assertEqual(product, number)
            self.assertEqual([prime for prime, exponent in pairs], sorted({prime for prime, exponent in pairs}))
            self.assertEqual(primes_of(number), [prime for prime, many in pairs for time in range(many)])

    def test_kinds_of_values(self):
        self.assertIs(type(factor(12)), list)
        self.assertTrue(all(type(pair) is tuple for pair in factor(12)))
        self.assertIs(type(primes_of(12)), list)
        self.assertIs(type(divisors(12)), list)

    def test_divisors_of_small_numbers(self):
        for number in range(1, 700):
            self.assertEqual(divisors(number), [d for d in range(1, number + 1) if number % d == 0])

    def test_divisors_of_great_numbers(self):
        for number, pairs in FACTORED.items():
            found = divisors(number)
            self.assertEqual(found, sorted(set(found)))
            self.assertTrue(all(number % divisor == 0 for divisor in found))
            self.assertEqual(len(found), math.prod(exponent + 1 for prime, exponent in pairs))

    def test_refused_numbers(self):
        for number in REFUSED:
            for function in (factor, primes_of, divisors):
                with self.assertRaises(InvalidNumber) as caught:
                    function(number)
                self.assertIs(type(caught.exception.given), type(number))
                self.assertEqual(caught.exception.given, number)

    def test_new_lists(self):
        for function in (factor, primes_of, divisors):
            first = function(360)
            told = list(first)
            first.clear()
            self.assertEqual(function(360), told)

    def test_keywords(self):
        self.assertEqual(factor(number=12), [(2, 2), (3, 1)])
        self.assertEqual(primes_of(number=12), [2, 2, 3])
        self.assertEqual(divisors(number=12), [1, 2, 3, 4, 6, 12])


class Inverse(unittest.TestCase):
    def check(self, number, modulus):
        found = inverse(number, modulus)
        if math.gcd(number, modulus) > 1:
            self.assertIsNone(found, (number, modulus))
        else:
            self.assertIn(found, range(modulus), (number, modulus))
            self.assertEqual(number * found % modulus, 1, (number, modulus))

    def test_all_small_moduli(self):
        for modulus in range(2, 401):
            for number in range(-modulus - 2, 2 * modulus + 3):
                self.check(number, modulus)

    def test_great_numbers(self):
        for number in samples(3, 60):
            for modulus in samples(4, 60):
                if abs(modulus) >= 2:
                    self.check(number, abs(modulus))

    def test_keywords(self):
        self.assertEqual(inverse(number=3, modulus=7), 5)
        self.assertEqual(inverse(modulus=3, number=-7), 2)
        self.assertIsNone(inverse(modulus=4, number=6))


class Digits(unittest.TestCase):
    def test_lengths_around_the_pieces(self):
        for length in (1, 2, 63, 64, 65, 127, 128, 129, 1000):
            for number in (10 ** length - 1, 10 ** length, 10 ** length + 1):
                self.assertEqual(digits_of(number), str(number))
                self.assertEqual(number_with(str(number)), number)
        self.assertEqual(digits_of(0), "0")

    def test_longer_than_python_converts_at_once(self):
        self.assertEqual(digits_of(10 ** 9000), "1" + "0" * 9000)
        self.assertEqual(digits_of(10 ** 9000 - 1), "9" * 9000)
        self.assertEqual(number_with("1" + "0" * 9000), 10 ** 9000)

    def test_integers_of_both_signs(self):
        for number in (0, 1, -1, 10, -10, 10 ** 64, -10 ** 64, 1 - 10 ** 64, 10 ** 300):
            self.assertEqual(integer_text(number), str(number))
        self.assertEqual(integer_text(-10 ** 9000), "-1" + "0" * 9000)

    def test_are_digits(self):
        for text in ("0", "7", "0123456789"):
            self.assertTrue(are_digits(text))
        for text in ("", " ", "1 ", "-1", "+1", "1_0", "1.0", "x", "\u0661", "\u00b2"):
            self.assertFalse(are_digits(text))

    def test_is_number(self):
        for value in (0, 1, -5, 10 ** 40):
            self.assertTrue(is_number(value))
        for value in (True, False, None, "1", 1.0, (1,)):
            self.assertFalse(is_number(value))


if __name__ == "__main__":
    unittest.main()
