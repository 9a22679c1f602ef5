"""Fours: their construction, arithmetic, content and units."""

import itertools
import unittest
from fractions import Fraction
from unittest import mock

from grainmeet.errors import InvalidFour, InvalidNumber
from grainmeet.fours import Four
from samples import is_four, small_fours, some_fours

ZERO = Four(0, 0, 0, 0)
ONE = Four(2, 0, 0, 0)
I = Four(0, 2, 0, 0)
J = Four(0, 0, 2, 0)
K = Four(0, 0, 0, 2)

# The sign and the place of the product of the basis at two places.
TABLE = (
    ((1, 0), (1, 1), (1, 2), (1, 3)),
    ((1, 1), (-1, 0), (1, 3), (-1, 2)),
    ((1, 2), (-1, 3), (-1, 0), (1, 1)),
    ((1, 3), (1, 2), (-1, 1), (-1, 0)),
)


def parts(four):
    return [Fraction(half, 2) for half in four.halves]


def product_by_table(one, other):
    """The parts of a product, part by part."""
    result = [Fraction(0)] * 4
    for at, first in enumerate(parts(one)):
        for place, second in enumerate(parts(other)):
            sign, target = TABLE[at][place]
            result[target] += sign * first * second
    return result


SAMPLE = small_fours(1) + some_fours(11, 40)


class Construction(unittest.TestCase):
    def check_refused(self, *halves):
        with self.assertRaises(InvalidFour) as caught:
            Four(*halves)
        self.assertIs(type(caught.exception.given), tuple)
        self.assertEqual(caught.exception.given, halves)
        self.assertEqual([type(half) for half in caught.exception.given], [type(half) for half in halves])

    def test_all_small_tuples(self):
        for halves in itertools.product(range(-2, 4), repeat=4):
            if is_four(halves):
                self.assertEqual(Four(*halves).halves, halves)
            else:
                self.check_refused(*halves)

    def test_number_of_halves(self):
        for many in (0, 1, 2, 3, 5, 6):
            self.check_refused(*[2] * many)
            self.check_refused(*[1] * many)
            self.check_refused(*range(many))

    def test_great_halves(self):
        most = 10 ** 9 - 1
        self.assertEqual(Four(most, -most, most, -most).halves, (most, -most, most, -most))
        self.check_refused(most, most, most, most - 1)
        self.check_refused(-most - 1, most, most, most)

    def test_booleans_and_others_are_no_integers(self):
        self.check_refused(True, True, True, True)
        self.check_refused(1, 1, True, 1)
        self.check_refused(0, False, 0, 0)
        self.check_refused(0, "0", 0, 0)
        self.check_refused(0, 0, 0, None)
        self.check_refused((0, 0, 0, 0))
        self.check_refused((2, 0), 0, 0, 0)

    def test_halves_are_a_tuple_that_cannot_be_assigned(self):
        halves = [2, 4, 6, 8]
        four = Four(*halves)
        halves[0] = 0
        self.assertEqual(four.halves, (2, 4, 6, 8))
        self.assertIs(type(four.halves), tuple)
        with self.assertRaises(AttributeError):
            four.halves = (0, 0, 0, 0)
        with self.assertRaises(AttributeError):
            four.size = 0

    def test_size(self):
        for four in SAMPLE:
            self.assertEqual(four.size, sum(part * part for part in parts(four)))
            self.assertIs(type(four.size), int)
        self.assertEqual([Four(2, 4, 0, 0).size, Four(1, 1, 1, -1).size, ZERO.size], [5, 1, 0])
        self.assertEqual(Four(1, 3, 5, 7).size, 21)

    def test_whole(self):
        for number in (0, 1, -1, 7, -12, 10 ** 9):
            self.assertEqual(Four.whole(number).halves, (2 * number, 0, 0, 0))
        self.assertEqual(Four.whole(number=3), Four(6, 0, 0, 0))

    def test_equality(self):
        fours = small_fours(1)
        for one, other in itertools.product(fours, fours):
            self.assertEqual(one == other, one.halves == other.halves)
            self.assertEqual(one != other, one.halves != other.halves)
        self.assertTrue(Four(1, 1, 1, 1) == Four(1, 1, 1, 1))

    def test_not_equal_to_other_values(self):
        for value in (2, 1, (2, 0, 0, 0), [2, 0, 0, 0], "1", "Four(1)", None, True, {}, object(), mock.ANY):
            self.assertFalse(ONE == value)
            self.assertTrue(ONE != value)
        for value in (0, False, None, ""):
            self.assertFalse(ZERO == value)
        self.assertFalse((2, 0, 0, 0) == ONE)

    def test_truth(self):
        for four in SAMPLE:
            self.assertIs(bool(four), four.halves != (0, 0, 0, 0))
        self.assertFalse(Four.whole(0))
        for unit in Four.units():
            self.assertTrue(unit)

    def test_repr(self):
        self.assertEqual(repr(Four(2, 2, 0, 0)), "Four(1+i)")
        self.assertEqual(repr(ZERO), "Four(0)")
        self.assertEqual(repr(Four(-1, 3, 3, 1)), "Four(-1/2+3/2i+3/2j+1/2k)")


class Arithmetic(unittest.TestCase):
    def test_table_of_products(self):
        basis = (ONE, I, J, K)
        for at, place in itertools.product(range(4), repeat=2):
            sign, target = TABLE[at][place]
            self.assertEqual(basis[at] * basis[place], basis[target] if sign == 1 else -basis[target])

    def test_products_as_the_document_tells(self):
        self.assertEqual([I * I, J * J, K * K], [-ONE, -ONE, -ONE])
        self.assertEqual([I * J, J * K, K * I], [K, I, J])
        self.assertEqual([J * I, K * J, I * K], [-K, -I, -J])

    def test_example(self):
        one, other = Four.read("1+2i"), Four(1, 1, 1, -1)
        told = [(one * other).text(), (other * one).text(), one.size, other.size, one.mirrored().text()]
        self.assertEqual(told, ["-1/2+3/2i+3/2j+1/2k", "-1/2+3/2i-1/2j-3/2k", 5, 1, "1-2i"])

    def test_part_by_part(self):
        for one, other in itertools.product(SAMPLE, SAMPLE):
            pairs = list(zip(parts(one), parts(other)))
            self.assertEqual(parts(one + other), [a + b for a, b in pairs])
            self.assertEqual(parts(one - other), [a - b for a, b in pairs])
            self.assertEqual(parts(one * other), product_by_table(one, other))

    def test_sign_and_mirrored(self):
        for four in SAMPLE:
            a, b, c, d = four.halves
            self.assertEqual((-four).halves, (-a, -b, -c, -d))
            self.assertEqual(four.mirrored().halves, (a, -b, -c, -d))
            self.assertEqual(four * four.mirrored(), Four.whole(four.size))
            self.assertEqual(four.mirrored().mirrored(), four)

    def test_groupings(self):
        for one, two, three in itertools.product(some_fours(12, 14), repeat=3):
            self.assertEqual((one * two) * three, one * (two * three))
            self.assertEqual(one * (two + three), one * two + one * three)
            self.assertEqual((one - two) * three, one * three - two * three)

    def test_mirrored_products_and_sizes(self):
        for one, other in itertools.product(SAMPLE, SAMPLE):
            self.assertEqual((one * other).mirrored(), other.mirrored() * one.mirrored())
            self.assertEqual((one * other).size, one.size * other.size)

    def test_integers_commute(self):
        for four, number in itertools.product(SAMPLE, (0, 1, -1, 2, 15, -10 ** 8)):
            times = tuple([number * half for half in four.halves])
            self.assertEqual((Four.whole(number) * four).halves, times)
            self.assertEqual((four * Four.whole(number)).halves, times)

    def test_operands_stay_as_they_were(self):
        one, other = Four(1, 3, 5, 7), Four(2, 4, 6, 8)
        results = [one + other, one - other, one * other, -one, one.mirrored(), other.divided(1)]
        self.assertEqual([one.halves, other.halves], [(1, 3, 5, 7), (2, 4, 6, 8)])
        one += other
        self.assertEqual(results[0], one)
        self.assertEqual(other.halves, (2, 4, 6, 8))


class Content(unittest.TestCase):
    def can_be_divided(self, four, number):
        return all(half % number == 0 for half in four.halves) and is_four([h // number for h in four.halves])

    def test_small_fours(self):
        for four in small_fours(4):
            if four:
                most = max(m for m in range(1, 5) if self.can_be_divided(four, m))
                self.assertEqual(four.content(), most, four)

    def test_multiples(self):
        for four, number in itertools.product(SAMPLE, (1, 2, 3, 4, -6, 35, 10 ** 5)):
            multiple = four * Four.whole(number)
            self.assertEqual(multiple.content(), abs(number) * four.content())

    def test_named_ones(self):
        self.assertEqual(ZERO.content(), 0)
        self.assertEqual(Four(2, 2, 2, 2).content(), 2)
        self.assertEqual(Four(2, 2, 2, -6).content(), 2)
        self.assertEqual(Four(2, 2, 2, 4).content(), 1)
        self.assertEqual(Four(4, 0, 0, 0).content(), 2)
        self.assertEqual(Four(-9, 3, 15, -3).content(), 3)
        self.assertEqual(Four(-10, 0, 0, 0).content(), 5)

    def check_divided(self, four, number):
        if number != 0 and self.can_be_divided(four, number):
            divided = four.divided(number)
            self.assertEqual(divided.halves, tuple([half // number for half in four.halves]))
            self.assertEqual(divided * Four.whole(number), four)
        else:
            with self.assertRaises(InvalidNumber) as caught:
                four.divided(number)
            self.assertEqual(caught.exception.given, number)

    def test_divided(self):
        for four in small_fours(3) + some_fours(13, 30):
            for number in range(-7, 8):
                self.check_divided(four, number)

    def test_divided_multiples(self):
        for four, factor in itertools.product(some_fours(14, 20, 9999), (12, -30, 77)):
            for number in range(-40, 41):
                self.check_divided(four * Four.whole(factor), number)

    def test_zero_divided(self):
        for number in (1, -1, 5, -10 ** 20):
            self.assertEqual(ZERO.divided(number), ZERO)
        self.check_divided(ZERO, 0)

    def test_halves_that_cannot_be_divided_alone(self):
        self.assertEqual(Four(2, 2, 2, 2).divided(2), Four(1, 1, 1, 1))
        self.check_divided(Four(2, 2, 2, 0), 2)
        self.check_divided(Four(1, 1, 1, 1), 10 ** 29)

    def test_booleans_are_no_numbers(self):
        for value in (True, False):
            with self.assertRaises(InvalidNumber) as caught:
                ONE.divided(value)
            self.assertIs(caught.exception.given, value)

    def test_keyword(self):
        self.assertEqual(Four(4, 0, 0, 8).divided(number=-2), Four(-2, 0, 0, -4))


class Units(unittest.TestCase):
    def test_all_fours_of_size_one(self):
        units = Four.units()
        self.assertEqual(len(units), 24)
        self.assertEqual(units, [four for four in small_fours(2) if four.size == 1])

    def test_ascending_halves(self):
        halves = [unit.halves for unit in Four.units()]
        self.assertEqual(halves, sorted(halves))
        self.assertEqual([halves[0], halves[-1]], [(-2, 0, 0, 0), (2, 0, 0, 0)])

    def test_new_list_each_time(self):
        first = Four.units()
        self.assertIs(type(first), list)
        first.reverse()
        first.pop()
        self.assertEqual(len(Four.units()), 24)
        self.assertEqual(Four.units()[0], -ONE)

    def test_closed_under_products(self):
        units = Four.units()
        for one, other in itertools.product(units, units):
            self.assertIn(one * other, units)
        for unit in units:
            self.assertIn(unit.mirrored(), units)
            self.assertIn(-unit, units)


if __name__ == "__main__":
    unittest.main()
