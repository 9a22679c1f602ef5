"""The midst of three grains, the parts of a grain, and the grain of its parts."""

import itertools
import math
import random
import unittest

from grainmeet.errors import InvalidNumber, NotApart
from grainmeet.fours import Four
from grainmeet.grains import Grain, spread
from grainmeet.listing import grains_at
from grainmeet.numbers import least_prime
from grainmeet.turns import Turn
from grainmeet.ways import between, is_between, is_midst, joined, midst, part
from samples import primes_in, some_grains

PLAIN = Grain.plain()
GRAINS = [PLAIN, *grains_at(3)[:2], grains_at(9)[4], grains_at(15)[7], grains_at(45)[50], grains_at(63)[11],
          grains_at(75)[33], grains_at(99)[100], *some_grains(93, 3, 60)]
FAR = [Grain(Turn(Four(999999999, -999999997, 3, 77))), Grain(Turn(Four(3, 1, 999999997, 999999999)).power(3))]


class Midst(unittest.TestCase):
    def check_midst(self, one, two, three):
        found = midst(one, two, three)
        for first, second in itertools.combinations((one, two, three), 2):
            self.assertEqual(spread(first, found) * spread(found, second), spread(first, second))
        for order in itertools.permutations((one, two, three)):
            self.assertEqual(midst(*order), found)
            self.assertIs(is_midst(*order, found), True)
        return found

    def test_triples(self):
        for triple in itertools.combinations_with_replacement(GRAINS, 3):
            self.check_midst(*triple)

    def test_the_only_one(self):
        for one, two, three in itertools.combinations(GRAINS[1:6], 3):
            told = [grain for grain in between(one, two)
                    if is_between(two, three, grain) and is_between(three, one, grain)]
            self.assertEqual(told, [midst(one, two, three)])

    def test_equal_grains(self):
        for one, other in itertools.product(GRAINS + FAR, repeat=2):
            self.assertEqual(self.check_midst(one, one, other), one)

    def test_a_grain_between_the_two_others(self):
        for one, other in itertools.combinations(GRAINS[:8], 2):
            for grain in between(one, other):
                self.assertEqual(midst(one, other, grain), grain)

    def test_far_grains(self):
        for turn in (Turn.read("2+i"), GRAINS[7].turn, FAR[1].turn):
            for triple in itertools.combinations([*FAR, GRAINS[5], GRAINS[8]], 3):
                found = self.check_midst(*triple)
                turned = [grain.turned(turn) for grain in triple]
                self.assertEqual(midst(*turned), found.turned(turn))

    def test_is_midst(self):
        for one, two, three in itertools.combinations(GRAINS[:8], 3):
            found = midst(one, two, three)
            for grain in GRAINS + FAR:
                self.assertIs(is_midst(one, two, three, grain), grain == found)

    def test_between_two_pairs_only(self):
        one, two, three = grains_at(3)[:3]
        self.assertEqual(midst(one, two, three), PLAIN)
        for grain in (one, two, three):
            self.assertIs(is_midst(one, two, three, grain), False)

    def test_keywords(self):
        one, two, three = GRAINS[3:6]
        found = midst(three=three, one=one, two=two)
        self.assertEqual(found, midst(one, two, three))
        self.assertIs(is_midst(grain=found, three=three, one=one, two=two), True)


class Part(unittest.TestCase):
    def check_part(self, grain, prime):
        power = prime ** primes_in(grain.spread).count(prime)
        found = part(grain, prime)
        self.assertEqual(found.spread, power)
        self.assertTrue(is_between(PLAIN, grain, found))

    def check_refused(self, grain, number, given):
        with self.assertRaises(InvalidNumber) as caught:
            part(grain, number)
        self.assertEqual(caught.exception.given, given)
        self.assertIs(type(caught.exception.given), type(given))

    def test_primes(self):
        for grain in GRAINS:
            for prime in [3, 5, 7, 11, 13, 97, 9973, 999999937, *primes_in(grain.spread)]:
                self.check_part(grain, prime)

    def test_all_grains_of_three_factors(self):
        for number in (27, 45, 63, 75, 99):
            for grain in grains_at(number)[::5]:
                for prime in (3, 5, 7, 11):
                    self.check_part(grain, prime)

    def test_the_only_grain(self):
        for grain in (GRAINS[5], GRAINS[6], GRAINS[7]):
            told = [other for other in between(PLAIN, grain) if other.spread == 9]
            self.assertEqual(told, [part(grain, 3)] if grain.spread % 9 == 0 else [])

    def test_numbers_that_are_no_odd_primes(self):
        wrong = (2, 1, 0, -1, -3, -7, 4, 6, 9, 15, 49, 1001, 31607 ** 2, 10 ** 9, 10 ** 9 + 7, 10 ** 9 + 1, 10 ** 29,
                 True, False)
        for grain in (PLAIN, GRAINS[5], FAR[0], FAR[1]):
            for number in wrong:
                self.check_refused(grain, number, number)

    def test_too_great_a_spread(self):
        for grain in FAR:
            self.assertGreater(grain.spread, 10 ** 9)
            for prime in (3, 5, 999999937):
                self.check_refused(grain, prime, grain.spread)

    def test_a_great_prime(self):
        row = (29999, -244, 20)
        number = sum(element * element for element in row)
        grain = Grain.of_ring(number, row)
        for prime in primes_in(number):
            self.check_part(grain, prime)

    def test_keywords(self):
        self.assertEqual(part(prime=5, grain=GRAINS[5]), part(GRAINS[5], 5))


class Joined(unittest.TestCase):
    def check_refused(self, prime, *grains):
        with self.assertRaises(NotApart) as caught:
            joined(*grains)
        self.assertEqual(caught.exception.prime, prime)

    def check_joined(self, *grains):
        found = joined(*grains)
        self.assertEqual(found.spread, math.prod(grain.spread for grain in grains))
        self.assertTrue(all(is_between(PLAIN, found, grain) for grain in grains))
        return found

    def test_none_and_one(self):
        self.assertEqual(joined(), PLAIN)
        for grain in GRAINS + FAR:
            self.assertEqual(joined(grain), grain)
            self.assertEqual(joined(PLAIN, grain, PLAIN), grain)

    def test_the_parts_give_the_grain_again(self):
        for grain in GRAINS + grains_at(99)[::9] + grains_at(75)[::9]:
            parts = [part(grain, prime) for prime in sorted(set(primes_in(grain.spread)))]
            for order in itertools.permutations(parts[:4]):
                self.assertEqual(joined(*order, *parts[4:]), grain)

    def test_all_pairs_of_coprime_grains(self):
        for one, other in itertools.product(grains_at(9), grains_at(5)):
            found = self.check_joined(one, other)
            self.assertEqual([part(found, 3), part(found, 5)], [one, other])
            self.assertEqual(joined(other, one), found)
            told = [grain for grain in grains_at(45)
                    if is_between(PLAIN, grain, one) and is_between(PLAIN, grain, other)]
            self.assertEqual(told, [found])

    def test_several_coprime_grains(self):
        source = random.Random(94)
        lists = [grains_at(number) for number in (27, 25, 49, 11, 13, 97)]
        for time in range(25):
            grains = [source.choice(entry) for entry in lists]
            found = self.check_joined(*grains)
            source.shuffle(grains)
            self.assertEqual(joined(*grains), found)

    def test_far_grains(self):
        shared = math.gcd(FAR[0].spread, 3 * 5 * 7 * 11 * 13)
        for number in (3, 5, 7, 11, 13):
            if shared % number:
                self.check_joined(FAR[0], grains_at(number)[1])
            else:
                self.check_refused(number, FAR[0], grains_at(number)[1])

    def test_primes_in_common(self):
        three, five, seven = grains_at(3)[1], grains_at(5)[2], grains_at(7)[3]
        nine, fifteen, many = grains_at(9)[5], grains_at(15)[5], grains_at(35)[5]
        self.check_refused(3, three, three)
        self.check_refused(3, three, nine)
        self.check_refused(3, nine, fifteen)
        self.check_refused(3, fifteen, nine)
        self.check_refused(5, fifteen, many)
        self.check_refused(3, three, many, fifteen)
        self.check_refused(7, three, many, seven)
        self.check_refused(5, many, many)
        # The first grain with a prime in common counts, and of its primes the least, whichever grain has it.
        self.check_refused(7, seven, five, three, seven, three, five)
        self.check_refused(3, seven, five, three, fifteen)
        self.check_refused(5, seven, five, three, many)
        self.check_refused(3, five, three, fifteen, seven, seven)

    def test_all_short_rows_of_grains(self):
        grains = [grains_at(number)[0] for number in (1, 3, 5, 9, 15, 21, 35)]
        for row in itertools.product(grains, repeat=3):
            told = None
            for at, grain in enumerate(row):
                before = set(primes_in(math.prod(other.spread for other in row[:at])))
                shared = before & set(primes_in(grain.spread))
                if shared and told is None:
                    told = min(shared)
            if told is None:
                self.check_joined(*row)
            else:
                self.check_refused(told, *row)

    def test_great_primes_in_common(self):
        row = (29999, -244, 20)
        number = sum(element * element for element in row)
        grain = Grain.of_ring(number, row)
        self.check_refused(min(primes_in(number)), grain, grain)
        for prime in set(primes_in(number)):
            self.check_refused(prime, part(grain, prime), grain)


class LeastPrime(unittest.TestCase):
    def test_small_numbers(self):
        for number in range(2, 3000):
            self.assertEqual(least_prime(number), primes_in(number)[0])

    def test_great_numbers(self):
        for number in (999999937, 31607 ** 2, 31601 * 31607, 3 ** 60, 5 * 999999937 ** 3, 7 ** 400):
            self.assertEqual(least_prime(number), primes_in(number)[0] if number < 10 ** 10 else math.gcd(number, 105))


if __name__ == "__main__":
    unittest.main()
