"""The grains of a spread: counted, listed, and near a grain."""

import inspect
import itertools
import math
import unittest

from grainmeet import listing
from grainmeet.errors import InvalidNumber
from grainmeet.fours import Four
from grainmeet.grains import Grain, is_ring, relative, spread
from grainmeet.listing import MOST_LISTED, count_at, grains_at, leans, near
from grainmeet.turns import Turn
from samples import is_four, primes_in, some_grains

ODD_PRIMES = [number for number in range(3, 98) if primes_in(number) == [number]]
REFUSED = (0, 100, 101, -1, -3, -99, 10 ** 9, 10 ** 29, True, False)
GRAINS = [Grain.plain(), *some_grains(81, 6, 99), *some_grains(82, 2)]


def count_by_the_document(number):
    """n(1 + 1/p)(1 + 1/q).. for odd numbers."""
    if number % 2 == 0:
        return 0
    primes = set(primes_in(number))
    return number * math.prod(prime + 1 for prime in primes) // math.prod(primes)


def grains_by_fours(numbers):
    """The lists of the halves of the fours of all grains of some odd spreads, by the fours of these sizes."""
    found = {number: set() for number in numbers}
    for first in range(math.isqrt(4 * max(numbers)) + 1):
        # A product with a unit brings any part to the front, so fours with a greatest first part are enough.
        for rest in itertools.product(range(-first, first + 1), repeat=3):
            halves = (first, *rest)
            quarters = sum(half * half for half in halves)
            if quarters % 4 == 0 and quarters // 4 in found and is_four(halves) and Four(*halves).content() == 1:
                found[quarters // 4].add(Grain(Turn(Four(*halves))).four.halves)
    return {number: sorted(found[number]) for number in numbers}


def halves_of(grains):
    return [grain.four.halves for grain in grains]


class Count(unittest.TestCase):
    def test_small_numbers(self):
        for number in range(1, 1200):
            self.assertEqual(count_at(number), count_by_the_document(number), number)
        self.assertEqual([count_at(number) for number in (1, 2, 3, 8, 9, 15, 27, 45, 100)],
                         [1, 0, 4, 0, 12, 24, 36, 72, 0])

    def test_great_numbers(self):
        numbers = [3 ** 18, 5 ** 12, 31607 ** 2, 31601 * 31607, 999999937, 10 ** 9 - 1, 111546435, 3 ** 9 * 5 ** 6]
        for number in [*numbers, 10 ** 9, 2 * 499999993, 2 ** 29]:
            self.assertEqual(count_at(number), count_by_the_document(number), number)

    def test_rings_counted(self):
        for number in (1, 3, 5, 7, 9, 11, 15):
            rows = [row for row in itertools.product(range(number), repeat=3) if is_ring(number, row)]
            units = sum(math.gcd(times, number) == 1 for times in range(number))
            self.assertEqual(count_at(number) * units, len(rows))

    def test_refused_numbers(self):
        for number in (0, -1, -9, 10 ** 9 + 1, 10 ** 9 + 2, 10 ** 30 - 1, -10 ** 30 + 1, True, False):
            with self.assertRaises(InvalidNumber) as caught:
                count_at(number)
            self.assertIs(caught.exception.given, number)


class Lists(unittest.TestCase):
    def check_list(self, grains, number):
        self.assertIs(type(grains), list)
        self.assertEqual(len(grains), count_by_the_document(number), number)
        halves = halves_of(grains)
        self.assertEqual(halves, sorted(set(halves)), number)
        self.assertTrue(all(grain.spread == number for grain in grains), number)

    def test_all_numbers(self):
        for number in range(1, MOST_LISTED + 1):
            self.check_list(grains_at(number), number)

    def test_every_grain_is_in_its_list(self):
        numbers = range(1, MOST_LISTED + 1, 2)
        for number, halves in grains_by_fours(numbers).items():
            self.assertEqual(halves_of(grains_at(number)), halves)

    def test_turned_grains_are_in_their_lists(self):
        lists = {number: grains_at(number) for number in range(1, MOST_LISTED + 1)}
        tried = 0
        for one, other in itertools.product(lists[9] + lists[7] + lists[5], repeat=2):
            found = relative(one, other)
            if found.spread <= MOST_LISTED:
                self.assertIn(found, lists[found.spread])
                tried += 1
        self.assertGreater(tried, 300)

    def test_leans(self):
        for prime in ODD_PRIMES:
            grains = leans(prime)
            self.check_list(grains, prime)
            self.assertEqual(grains, grains_at(prime))

    def test_named_ones(self):
        self.assertEqual([grain.four.text() for grain in grains_at(1)], ["1"])
        self.assertEqual(sorted(grain.four.text() for grain in leans(5)),
                         ["2+i", "2+j", "2+k", "2-i", "2-j", "2-k"])
        self.assertEqual([grain.four.text() for grain in leans(5)], ["2-i", "2-j", "2-k", "2+k", "2+j", "2+i"])
        for number in (2, 4, 98):
            self.assertEqual(grains_at(number), [])
        self.assertEqual(listing.MOST_LISTED, 99)

    def test_refused_numbers(self):
        for number in REFUSED:
            with self.assertRaises(InvalidNumber) as caught:
                grains_at(number)
            self.assertIs(caught.exception.given, number)

    def test_new_lists(self):
        for function, number in ((grains_at, 15), (grains_at, 1), (grains_at, 4), (leans, 7)):
            first = function(number)
            told = list(first)
            first.append(None)
            self.assertEqual(function(number), told)


class Near(unittest.TestCase):
    def test_in_the_order_of_grains_at(self):
        for grain, number in itertools.product(GRAINS, (1, 2, 3, 5, 9, 15, 21)):
            found = list(near(grain, number))
            self.assertEqual([relative(grain, other) for other in found], grains_at(number))
            self.assertTrue(all(spread(grain, other) == number for other in found))
            self.assertEqual(len({other.four.halves for other in found}), count_by_the_document(number))

    def test_near_the_whole_grid(self):
        for number in (1, 4, 33, 99):
            self.assertEqual(list(near(Grain.plain(), number)), grains_at(number))

    def test_it_is_a_generator(self):
        self.assertTrue(inspect.isgenerator(near(GRAINS[1], 3)))
        found = near(GRAINS[1], 3)
        first = next(found)
        self.assertEqual([first, *found], list(near(GRAINS[1], 3)))

    def test_error_when_the_first_element_is_asked_for(self):
        for number in REFUSED:
            found = near(GRAINS[1], number)
            with self.assertRaises(InvalidNumber) as caught:
                next(found)
            self.assertIs(caught.exception.given, number)


class Keywords(unittest.TestCase):
    def test_keywords(self):
        self.assertEqual(count_at(number=15), 24)
        self.assertEqual(leans(prime=3), grains_at(number=3))
        grain = GRAINS[1]
        self.assertEqual(list(near(number=3, grain=grain)), list(near(grain, 3)))
        self.assertEqual(repr(grain), repr(GRAINS[1]))


if __name__ == "__main__":
    unittest.main()
