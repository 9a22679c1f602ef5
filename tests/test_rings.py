"""Rings of grains: read off a grain, recognised, refused, and made into a grain."""

import itertools
import math
import random
import unittest

from grainmeet.errors import InvalidRing
from grainmeet.fours import Four
from grainmeet.grains import Grain, freed, is_ring
from grainmeet.turns import Turn
from samples import belongs, box, primes_in, small_fours, some_grains, some_points

SMALL = [Grain(Turn(four)) for four in small_fours(3) if four][::9]
GREAT = some_grains(71, 30)
MOST = 9 * 10 ** 8


def product(row, point):
    return sum(element * coordinate for element, coordinate in zip(row, point))


def is_ring_by_the_document(number, row):
    """The words of the document, prime by prime."""
    if number <= 0 or number % 2 == 0:
        return False
    if any(all(element % prime == 0 for element in row) for prime in primes_in(number)):
        return False
    return product(row, row) % number == 0


class RingOfGrain(unittest.TestCase):
    def check_form(self, grain):
        ring = grain.ring()
        self.assertEqual([type(ring), len(ring)], [tuple, 2])
        number, row = ring
        self.assertEqual(number, grain.spread)
        self.assertEqual([type(row), *map(type, row)], [tuple, int, int, int])
        self.assertTrue(all(0 <= element < number for element in row))
        self.assertIs(is_ring(number, row), True)
        self.assertEqual(math.gcd(number, *row), 1)
        return number, row

    def test_form(self):
        for grain in SMALL + GREAT:
            self.check_form(grain)

    def test_points_of_a_box(self):
        for grain in SMALL:
            number, row = grain.ring()
            for point in box(2):
                self.assertEqual(belongs(grain.four, point), product(row, point) % number == 0)

    def test_all_points_up_to_multiples_of_the_number(self):
        for text in ("1+i+j", "2+i", "2+2i+j", "1+2i+3j+k", "3+2i+j+k", "5/2+5/2i+3/2j+1/2k", "4+i+2j"):
            grain = Grain(Turn.read(text))
            number, row = grain.ring()
            for point in itertools.product(range(number), repeat=3):
                self.assertEqual(point in grain, product(row, point) % number == 0)

    def test_points_of_great_grains(self):
        for grain in GREAT:
            number, row = grain.ring()
            for point in some_points(72, 6):
                place = grain.turn.image(point)[0]
                self.assertEqual(product(row, place) % number, 0)
                other = (place[0] + 1, place[1], place[2])
                self.assertEqual(belongs(grain.four, other), product(row, other) % number == 0)

    def test_grains_with_rows_that_lack_a_prime(self):
        # The turn of (2+i)(2+j)(2+k) and its kin have tables whose rows are multiples of some primes.
        leads = [Four.read(text) for text in ("2+i", "2+j", "2+k", "1+i+j", "1+i+k", "1+j+k", "2+i+j+k", "3+2j")]
        for lead in itertools.product(leads, repeat=3):
            grain = Grain(Turn(lead[0] * lead[1] * lead[2]))
            number, row = self.check_form(grain)
            for point in box(1):
                self.assertEqual(belongs(grain.four, point), product(row, point) % number == 0)

    def test_plain(self):
        self.assertEqual(Grain.plain().ring(), (1, (0, 0, 0)))
        for turn in Turn.cube():
            self.assertEqual(Grain(turn).ring(), (1, (0, 0, 0)))

    def test_rings_of_any_size(self):
        great = Grain(Turn(Four(999999999, -999999997, 3, 77)).power(20))
        number, row = self.check_form(great)
        self.assertGreater(number, 10 ** 300)
        self.assertEqual(Grain.of_ring(number, row), great)


class GrainOfRing(unittest.TestCase):
    def check_refused(self, number, row):
        self.assertIs(is_ring(number, row), False)
        with self.assertRaises(InvalidRing) as caught:
            Grain.of_ring(number, row)
        self.assertEqual(caught.exception.number, number)

    def check_grain(self, number, row):
        self.assertIs(is_ring(number, row), True)
        grain = Grain.of_ring(number, row)
        self.assertEqual(grain.spread, number)
        for point in some_points(73, 6):
            self.assertEqual(point in grain, product(row, point) % number == 0)
        return grain

    def test_all_rows_of_small_numbers(self):
        for number in range(-4, 16):
            for row in itertools.product(range(max(1, abs(number))), repeat=3):
                if is_ring_by_the_document(number, row):
                    self.check_grain(number, row)
                else:
                    self.check_refused(number, row)

    def test_elements_of_any_size_and_sign(self):
        source = random.Random(74)
        for number in (1, 3, 5, 9, 15, 21, 27, 45, 105):
            for time in range(150):
                row = tuple([source.randint(-10 ** 30 + 1, 10 ** 30 - 1) for place in range(3)])
                rests = tuple([element % number for element in row])
                self.assertIs(is_ring(number, row), is_ring_by_the_document(number, row))
                self.assertIs(is_ring(number, row), is_ring(number, rests))
                if is_ring(number, row):
                    self.assertEqual(self.check_grain(number, row), Grain.of_ring(number, rests))
                else:
                    self.check_refused(number, row)

    def test_ring_of_a_grain_gives_the_grain_again(self):
        for grain in SMALL + GREAT:
            number, row = grain.ring()
            self.assertEqual(Grain.of_ring(number, row), grain)
            moved = tuple([element - times * number for element, times in zip(row, (5, -7, 10 ** 9))])
            self.assertEqual(Grain.of_ring(number, moved), grain)

    def test_multiples_of_the_row(self):
        for grain in SMALL:
            number, row = grain.ring()
            for times in (-1, 2, -2, 4, 7, 11, number - 1, number + 1, 10 ** 9 + 7):
                multiple = tuple([times * element for element in row])
                if math.gcd(times, number) == 1:
                    self.assertEqual(Grain.of_ring(number, multiple), grain)
                else:
                    self.check_refused(number, multiple)

    def test_rows_that_are_no_multiples_give_other_grains(self):
        for number in (3, 5, 9, 15):
            rows = [row for row in itertools.product(range(number), repeat=3) if is_ring(number, row)]
            times = [k for k in range(number) if math.gcd(k, number) == 1]
            for row in rows:
                multiples = [tuple([k * element % number for element in row]) for k in times]
                grain = Grain.of_ring(number, row)
                for other in rows[::5]:
                    self.assertEqual(Grain.of_ring(number, other) == grain, other in multiples)

    def test_no_rings(self):
        for number in (0, -1, -3, -5, -10 ** 29, 2, 4, 10, 20, 8 * 10 ** 8):
            for row in ((0, 0, 0), (0, 3, 4), (1, 2, 0), (1, 1, 1), (0, 0, 1), (10, 20, 50)):
                self.check_refused(number, row)
        for number, row in ((3, (1, 1, 0)), (5, (0, 0, 0)), (5, (5, 10, -15)), (15, (3, 6, 0)), (9, (3, 3, 3)),
                            (25, (0, 3, 4 + 5)), (15, (5, 5, 5)), (9, (1, 1, 1))):
            self.check_refused(number, row)

    def test_rings_of_one(self):
        for row in ((0, 0, 0), (1, 2, 3), (-10 ** 29, 7, 0)):
            self.assertIs(is_ring(1, row), True)
            self.assertEqual(Grain.of_ring(1, row), Grain.plain())

    def test_great_numbers(self):
        tried = 0
        for a, b, c in itertools.product(range(17001, 17400, 17), range(12002, 12400, 29), range(5, 6000, 997)):
            number = (a * a + b * b + c * c) // 2 if (a + b + c) % 2 == 0 else a * a + b * b + c * c
            if number % 2 and 10 ** 8 < number < MOST and math.gcd(a, b, c, number) == 1:
                grain = self.check_grain(number, (a, b, c))
                self.assertEqual(Grain.of_ring(*grain.ring()), grain)
                tried += 1
        self.assertGreater(tried, 300)

    def test_a_number_of_nine_digits(self):
        row = (29999, -244, 20)
        number = product(row, row)
        self.assertEqual(number, 899999937)
        grain = self.check_grain(number, row)
        self.assertEqual(Grain.of_ring(*grain.ring()), grain)
        self.assertEqual(Grain.of_ring(number, (2 * 29999, -488, 40)), grain)
        self.check_refused(number, (29999, -244, 21))
        self.check_refused(number + 1, row)

    def test_the_row_stays(self):
        row = (0, -3, 14)
        Grain.of_ring(5, row)
        self.assertEqual(row, (0, -3, 14))

    def test_keywords(self):
        self.assertEqual(Grain.of_ring(row=(0, 3, 4), number=5), Grain(Turn.read("2+i")))
        self.assertIs(is_ring(row=(0, 3, 4), number=5), True)


class Freed(unittest.TestCase):
    def test_greatest_divisor_without_a_common_prime(self):
        for number, other in itertools.product(range(1, 200), range(-30, 31)):
            told = max(d for d in range(1, number + 1) if number % d == 0 and math.gcd(d, other) == 1)
            self.assertEqual(freed(number, other), told)


if __name__ == "__main__":
    unittest.main()
