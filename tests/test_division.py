"""Left division of fours and common left divisors."""

import itertools
import unittest

from grainmeet.division import associate, common_left, divide_left, divides_left, part_left
from grainmeet.errors import InvalidFour
from grainmeet.fours import Four
from grainmeet.numbers import divisors
from samples import small_fours, some_fours

ZERO = Four(0, 0, 0, 0)
SMALL = small_fours(2)
UNITS = [four for four in SMALL if four.size == 1]
LONG = some_fours(41, 60, 999999)


def is_left_divisor(one, other):
    """Whether other = one * x for a four x: this is the mirrored one times the other, divided by the size of one."""
    return (one.mirrored() * other).content() % one.size == 0


def near_rest(one, other):
    """A quotient and a rest of lesser size, found by trying all fours about the fraction."""
    scaled = (other.mirrored() * one).halves
    base = [half // other.size for half in scaled]
    tried = itertools.product(*[(half - 1, half, half + 1, half + 2) for half in base])
    quotients = [Four(*halves) for halves in tried if len({half % 2 for half in halves}) == 1]
    return min([(quotient, one - other * quotient) for quotient in quotients], key=lambda pair: pair[1].size)


def sum_of_multiples(one, other):
    """A common left divisor of two fours with the fours by which they are multiplied to give it as their sum."""
    found, next_found = (one, Four.whole(1), ZERO), (other, ZERO, Four.whole(1))
    while next_found[0]:
        quotient, rest = near_rest(found[0], next_found[0])
        left, right = [found[at] - next_found[at] * quotient for at in (1, 2)]
        found, next_found = next_found, (rest, left, right)
    return found


class Divide(unittest.TestCase):
    def check(self, one, other):
        pair = divide_left(one, other)
        self.assertIs(type(pair), tuple)
        quotient, rest = pair
        self.assertEqual(other * quotient + rest, one)
        self.assertLess(rest.size, other.size)

    def check_refused(self, function, one, other):
        with self.assertRaises(InvalidFour) as caught:
            function(one, other)
        self.assertEqual(caught.exception.given, (0, 0, 0, 0))

    def test_small_pairs(self):
        for one, other in itertools.product(small_fours(1) + SMALL[::7], SMALL):
            if other:
                self.check(one, other)

    def test_long_pairs(self):
        for one, other in itertools.product(LONG, LONG):
            if other:
                self.check(one, other)

    def test_a_quotient_between_all_integers(self):
        for other in LONG:
            for unit in UNITS:
                if other:
                    self.assertEqual(divide_left(other * unit, other), (unit, ZERO))
                    self.check(other * unit, other + other)

    def test_zero(self):
        for four in LONG + SMALL[::11]:
            self.check_refused(divide_left, four, ZERO)
            if four:
                self.assertEqual(divide_left(ZERO, four), (ZERO, ZERO))
        self.check_refused(divide_left, ZERO, ZERO)

    def test_long_results_may_be_passed_back(self):
        great = Four(999999999, -999999997, 3, 77)
        for time in range(5):
            great = great * great
        self.check(great, LONG[-1])
        self.check(great, great.mirrored() * LONG[-1])

    def test_divides_left(self):
        for one, other in itertools.product(SMALL[::3], SMALL):
            if one:
                self.assertIs(divides_left(one, other), is_left_divisor(one, other))

    def test_divides_left_of_products(self):
        for one, other in itertools.product([four for four in LONG if four.size > 1], LONG):
            self.assertIs(divides_left(one, one * other), True)
            self.assertIs(divides_left(one, one * other + UNITS[5]), False)
            self.assertIs(divides_left(one, other * one), is_left_divisor(one, other * one))

    def test_divides_left_zero(self):
        for four in LONG:
            self.check_refused(divides_left, ZERO, four)
            if four:
                self.assertIs(divides_left(four, ZERO), True)
        self.check_refused(divides_left, ZERO, ZERO)


class Associate(unittest.TestCase):
    def test_greatest_of_all_products(self):
        self.assertEqual(len(UNITS), 24)
        for four in SMALL + LONG:
            products = [four * unit for unit in UNITS]
            found = associate(four)
            self.assertEqual(found.halves, max(product.halves for product in products))
            self.assertIn(found, products)
            for product in products:
                self.assertEqual(associate(product), found)

    def test_named_ones(self):
        for unit in UNITS:
            self.assertEqual(associate(unit), Four.whole(1))
        self.assertEqual(associate(ZERO), ZERO)
        self.assertEqual(associate(Four.read("-1-2i")), Four.read("2-i"))


class Common(unittest.TestCase):
    def check(self, one, other):
        found = common_left(one, other)
        self.assertTrue(is_left_divisor(found, one))
        self.assertTrue(is_left_divisor(found, other))
        told, left, right = sum_of_multiples(one, other)
        self.assertEqual(one * left + other * right, told)
        self.assertEqual(found.size, told.size)
        self.assertTrue(is_left_divisor(found, told))
        self.assertEqual(found.halves, max((found * unit).halves for unit in UNITS))
        self.assertEqual(common_left(other, one), found)
        return found

    def test_products_with_a_common_factor(self):
        factors = [four for four in some_fours(42, 12, 999) if four]
        for factor, one, other in itertools.product(factors, repeat=3):
            found = self.check(factor * one, factor * other)
            self.assertTrue(is_left_divisor(factor, found))

    def test_pairs_without_a_known_divisor(self):
        for one, other in itertools.combinations(LONG, 2):
            if one or other:
                self.check(one, other)

    def test_every_common_left_divisor_divides_it(self):
        tried = [four for four in SMALL if four]
        for one, other in itertools.product(SMALL[::17], SMALL[1::13]):
            if one or other:
                found = self.check(one, other)
                for four in tried:
                    if is_left_divisor(four, one) and is_left_divisor(four, other):
                        self.assertTrue(is_left_divisor(four, found), (one, other, four))

    def test_zeros(self):
        self.assertEqual(common_left(ZERO, ZERO), ZERO)
        for four in LONG:
            self.assertEqual(common_left(four, ZERO), associate(four))
            self.assertEqual(common_left(ZERO, four), associate(four))
            self.assertEqual(common_left(four, four), associate(four))


class Part(unittest.TestCase):
    def test_divisors_of_the_size(self):
        tried = [four for four in SMALL + some_fours(43, 120, 9999) if four.size % 2 and four.content() == 1]
        self.assertGreater(len(tried), 100)
        for four in tried:
            for number in divisors(four.size):
                found = part_left(four, number)
                self.assertEqual(found.size, number)
                self.assertTrue(is_left_divisor(found, four))
                self.assertEqual(found, associate(found))
                self.assertEqual(part_left(four, -number), found)

    def test_any_integers(self):
        for four, number in itertools.product(SMALL[::5] + LONG[:20], (1, -1, 2, 3, -4, 6, 9, 35, -360, 10 ** 29)):
            self.assertEqual(part_left(four, number), common_left(four, Four.whole(number)))
            self.assertTrue(is_left_divisor(part_left(four, number), Four.whole(number)))
            self.assertTrue(is_left_divisor(part_left(four, number), four))

    def test_named_ones(self):
        self.assertEqual(part_left(ZERO, -6), Four.whole(6))
        self.assertEqual(part_left(Four.whole(6), 4), Four.whole(2))
        self.assertEqual(part_left(Four.read("2+i") * Four.read("1+j+k"), 5), Four.read("2+i"))
        self.assertEqual(part_left(Four.read("1+i"), 2), Four.read("1+i"))


class Keywords(unittest.TestCase):
    def test_keywords(self):
        one, other = Four.read("3+i-2j"), Four.read("2+i")
        self.assertEqual(divide_left(other=other, one=one), divide_left(one, other))
        self.assertEqual(associate(four=one), associate(one))
        self.assertEqual(common_left(other=other, one=one * other), common_left(one * other, other))
        self.assertEqual(part_left(number=5, four=other), other)
        self.assertIs(divides_left(other=other * one, one=other), True)

    def test_arguments_stay(self):
        one, other = Four.read("3+i-2j"), Four.read("2+i")
        results = [divide_left(one, other), associate(one), common_left(one, other), part_left(one, 7)]
        self.assertEqual(len(results), 4)
        self.assertEqual([one.text(), other.text()], ["3+i-2j", "2+i"])


if __name__ == "__main__":
    unittest.main()
