"""Ways between grains: the grains on them, how many there are, and what is no way."""

import inspect
import itertools
import math
import unittest

from grainmeet.errors import InvalidNumber, InvalidOrder
from grainmeet.fours import Four
from grainmeet.grains import Grain, relative, spread
from grainmeet.listing import grains_at, leans
from grainmeet.turns import Turn
from grainmeet.ways import between, is_between, is_way, way, ways_count
from samples import primes_in, some_grains

PLAIN = Grain.plain()
GRAINS = [PLAIN, *grains_at(3)[:2], grains_at(9)[4], grains_at(15)[7], grains_at(45)[50], grains_at(63)[11],
          grains_at(75)[33], *some_grains(91, 3, 60)]
PAIRS = list(itertools.product(GRAINS, GRAINS))
FAR = Grain(Turn(Four(999999999, -999999997, 3, 77)))
FARTHER = Grain(Turn(Four(3, 1, 999999997, 999999999)).power(3))


def far_pairs():
    """Pairs of grains whose spread is greater than 10 ** 9."""
    pairs = [(PLAIN, FAR), (FAR, PLAIN), (GRAINS[4], FAR), (FAR, FARTHER), (FARTHER, GRAINS[5])]
    assert all(spread(one, other) > 10 ** 9 for one, other in pairs)
    return pairs


def all_divisors(number):
    """All positive divisors in ascending order, by all choices of the primes."""
    primes = primes_in(number)
    chosen = [choice for many in range(len(primes) + 1) for choice in itertools.combinations(primes, many)]
    return sorted({math.prod(choice) for choice in chosen})


def orders(numbers):
    return [list(order) for order in sorted(set(itertools.permutations(numbers)))]


def steps_of(grains):
    return [spread(start, end) for start, end in zip(grains, grains[1:])]


class Refusing(unittest.TestCase):
    def check_too_far(self, call, one, other):
        with self.assertRaises(InvalidNumber) as caught:
            call()
        self.assertEqual(caught.exception.given, spread(one, other))


class Way(Refusing):
    def check_way(self, grains, one, other, primes):
        self.assertIs(type(grains), list)
        self.assertEqual([grains[0], grains[-1]], [one, other])
        self.assertEqual(steps_of(grains), primes)

    def test_ascending_primes(self):
        for one, other in PAIRS:
            primes = primes_in(spread(one, other))
            self.check_way(way(one, other), one, other, primes)
            self.assertEqual(way(one, other, primes=None), way(one, other))
            self.assertEqual(way(one, other, primes=primes), way(one, other))

    def test_every_order_of_the_primes(self):
        for one, other in PAIRS:
            primes = primes_in(spread(one, other))
            if len(primes) <= 5:
                for order in orders(primes):
                    given = list(order)
                    self.check_way(way(one, other, primes=given), one, other, order)
                    self.assertEqual(given, order)

    def test_the_only_way_by_all_steps(self):
        for other in [grains_at(45)[3], grains_at(27)[20], grains_at(75)[60], grains_at(63)[40]]:
            for order in orders(primes_in(other.spread)):
                found = [[PLAIN]]
                for prime in order:
                    found = [[*grains, step.turned(grains[-1].turn)] for grains in found for step in leans(prime)]
                found = [grains for grains in found if grains[-1] == other]
                self.assertEqual(found, [way(PLAIN, other, primes=order)])

    def test_the_same_grain(self):
        for grain in [*GRAINS, FAR]:
            self.assertEqual(way(grain, grain), [grain])
            self.assertEqual(way(grain, grain, primes=[]), [grain])

    def test_other_lists(self):
        for one, other in PAIRS[::3]:
            primes = primes_in(spread(one, other))
            wrong = [[*primes, 3], [1, *primes], primes[1:], [*primes, 2], [-prime for prime in primes], [0],
                     [*primes[:-1], 9973], [math.prod(primes)], primes + primes, [4], [10 ** 29]]
            for given in [entry for entry in wrong if sorted(entry) != primes]:
                kept = list(given)
                with self.assertRaises(InvalidOrder) as caught:
                    way(one, other, primes=given)
                self.assertEqual(caught.exception.given, kept)
                self.assertEqual(given, kept)

    def test_too_far(self):
        for one, other in far_pairs():
            self.check_too_far(lambda: way(one, other), one, other)
            for primes in ([], [2], [3, 5], None):
                self.check_too_far(lambda: way(one, other, primes=primes), one, other)

    def test_a_new_list_each_time(self):
        first = way(PLAIN, GRAINS[5])
        first.clear()
        self.assertEqual(len(way(PLAIN, GRAINS[5])), 4)

    def test_keywords(self):
        one, other = GRAINS[1], GRAINS[5]
        primes = primes_in(spread(one, other))[::-1]
        self.assertEqual(way(other=other, one=one, primes=primes), way(one, other, primes=primes))
        with self.assertRaises(TypeError):
            way(one, other, primes)


class IsWay(Refusing):
    def check(self, one, other, grains):
        """The words of the document: the ends, the number of steps, and their spreads."""
        primes = primes_in(spread(one, other))
        told = bool(grains) and grains[0] == one and grains[-1] == other and sorted(steps_of(grains)) == primes
        kept = list(grains)
        self.assertIs(is_way(one, other, grains), told)
        self.assertEqual(grains, kept)
        return told

    def test_ways(self):
        for one, other in PAIRS:
            for grains in (way(one, other), way(other, one)[::-1]):
                self.assertTrue(self.check(one, other, grains))
            if one != other:
                self.assertFalse(self.check(one, other, way(other, one)))

    def test_grains_removed(self):
        for one, other in PAIRS:
            grains = way(one, other)
            for at in range(len(grains)):
                self.assertFalse(self.check(one, other, grains[:at] + grains[at + 1:]))
        self.assertFalse(self.check(PLAIN, PLAIN, []))

    def test_grains_added(self):
        for one, other in PAIRS[::2]:
            grains = way(one, other)
            for at in range(len(grains) + 1):
                for more in (one, other, grains[at - 1], GRAINS[1], FAR):
                    self.assertFalse(self.check(one, other, [*grains[:at], more, *grains[at:]]))

    def test_detours(self):
        for one, other in PAIRS[::2]:
            grains = way(one, other)
            for step in leans(3)[:2]:
                aside = step.turned(grains[0].turn)
                self.assertFalse(self.check(one, other, [grains[0], aside, *grains]))

    def test_grains_exchanged(self):
        for one, other in PAIRS:
            grains = way(one, other)
            for at, place in itertools.combinations(range(len(grains)), 2):
                changed = list(grains)
                changed[at], changed[place] = changed[place], changed[at]
                self.assertFalse(self.check(one, other, changed))

    def test_grains_replaced(self):
        for one, other in PAIRS[::2]:
            grains = way(one, other)
            for at in range(len(grains)):
                for new in (PLAIN, GRAINS[2], GRAINS[4], FAR, *grains):
                    self.check(one, other, [*grains[:at], new, *grains[at + 1:]])

    def test_grains_of_other_ways(self):
        one, other = PLAIN, grains_at(45)[17]
        found = [way(one, other, primes=order) for order in orders([3, 3, 5])]
        for first, second in itertools.product(found, found):
            for at in range(4):
                self.check(one, other, first[:at] + second[at:])

    def test_too_far_before_anything_else(self):
        for one, other in far_pairs():
            for grains in ([], [one], [one, other], [other, PLAIN]):
                self.check_too_far(lambda: is_way(one, other, grains), one, other)

    def test_grains_far_off_in_the_list(self):
        self.assertIs(is_way(PLAIN, GRAINS[4], [PLAIN, FARTHER, GRAINS[4]]), False)

    def test_keywords(self):
        grains = way(PLAIN, GRAINS[5])
        self.assertIs(is_way(grains=grains, other=GRAINS[5], one=PLAIN), True)


class WaysCount(Refusing):
    def test_orders_counted(self):
        for one, other in PAIRS:
            primes = primes_in(spread(one, other))
            if len(primes) <= 7:
                self.assertEqual(ways_count(one, other), len(orders(primes)))

    def test_named_ones(self):
        self.assertEqual(ways_count(PLAIN, PLAIN), 1)
        self.assertEqual([ways_count(PLAIN, grains_at(number)[0]) for number in (3, 9, 15, 45, 81, 75)],
                         [1, 1, 2, 3, 1, 3])
        # 3 * 3 * 5 * 7 * 7 * 11 * 13
        grain = Grain.of_ring(315315, ring_row(315315))
        self.assertEqual(ways_count(PLAIN, grain), math.factorial(7) // 4)
        self.assertEqual(ways_count(other=PLAIN, one=grain), math.factorial(7) // 4)

    def test_too_far(self):
        for one, other in far_pairs():
            self.check_too_far(lambda: ways_count(one, other), one, other)


def ring_row(number):
    """A row of a ring with an odd number that has few small factors, found by trying."""
    for x, y in itertools.product(range(number), range(1, 400)):
        rest = -(x * x + y * y) % number
        root = math.isqrt(rest)
        if root * root == rest and math.gcd(x, y, root, number) == 1:
            return (x, y, root)
    return None


class Between(Refusing):
    def test_one_for_each_divisor(self):
        for one, other in PAIRS:
            told = spread(one, other)
            found = list(between(one, other))
            numbers = all_divisors(told)
            self.assertEqual([spread(one, grain) for grain in found], numbers)
            self.assertEqual([spread(grain, other) for grain in found], numbers[::-1])
            self.assertEqual([found[0], found[-1]], [one, other])
            self.assertTrue(all(is_between(one, other, grain) is True for grain in found))

    def test_all_grains_between(self):
        for other in (grains_at(45)[70], grains_at(75)[9], grains_at(63)[33], grains_at(27)[2]):
            told = [grain for number in all_divisors(other.spread) for grain in grains_at(number)
                    if number * relative(grain, other).spread == other.spread]
            self.assertEqual(list(between(PLAIN, other)), told)

    def test_is_between(self):
        for one, other in PAIRS:
            for grain in [*GRAINS, FAR]:
                told = spread(one, grain) * spread(grain, other) == spread(one, other)
                self.assertIs(is_between(one, other, grain), told)
                self.assertIs(is_between(other, one, grain), told)

    def test_is_between_far_grains(self):
        for one, other in far_pairs():
            self.assertIs(is_between(one, other, one), True)
            self.assertIs(is_between(one, other, other), True)
            self.assertIs(is_between(one, other, GRAINS[6]), False)
        great = Grain(FAR.turn * FARTHER.turn)
        self.assertIs(is_between(PLAIN, great, FAR), spread(FAR, great) * FAR.spread == great.spread)

    def test_it_is_a_generator(self):
        self.assertTrue(inspect.isgenerator(between(PLAIN, GRAINS[5])))

    def test_error_when_the_first_element_is_asked_for(self):
        for one, other in far_pairs():
            found = between(one, other)
            self.check_too_far(lambda: next(found), one, other)

    def test_keywords(self):
        one, other = GRAINS[1], GRAINS[5]
        self.assertEqual(list(between(other=other, one=one)), list(between(one, other)))
        self.assertIs(is_between(grain=GRAINS[1], other=other, one=one), True)


if __name__ == "__main__":
    unittest.main()
