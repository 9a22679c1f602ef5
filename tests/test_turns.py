"""Turns: their fours, tables, images, products and powers, and the turns of the cube."""

import itertools
import math
import unittest
from fractions import Fraction
from unittest import mock

from grainmeet.errors import InvalidFour, ParseError
from grainmeet.fours import Four
from grainmeet.turns import Turn
from samples import AXES, applied, carried, fractions_of, small_fours, some_fours, some_points, some_turns, table_of

FOURS = [four for four in small_fours(3) if four]
LONG = [four for four in some_fours(51, 60) if four]
TURNS = some_turns(52, 25, 9999)
POINTS = some_points(53, 12)


def least_multiple(table):
    """The least positive integer that makes a table of fractions one of integers."""
    return math.lcm(*[entry.denominator for row in table for entry in row])


class Construction(unittest.TestCase):
    def check_four(self, four):
        found = Turn(four).four
        content = max(m for m in range(1, 8) if all(half % m == 0 for half in four.halves)
                      and len({half // m % 2 for half in four.halves}) == 1)
        lowest = [half // content for half in four.halves]
        first = [half for half in lowest if half][0]
        self.assertEqual(list(found.halves), lowest if first > 0 else [-half for half in lowest])
        self.assertEqual(table_of(found), table_of(four))

    def test_four_of_small_turns(self):
        for four in FOURS:
            self.check_four(four)

    def test_four_of_multiples(self):
        for four in FOURS[::29] + LONG:
            lead = Turn(four).four
            self.assertEqual(lead.content(), 1)
            self.assertGreater([half for half in lead.halves if half][0], 0)
            for number in (1, -1, 2, -2, 3, -15, 64, 10 ** 6, -(10 ** 30)):
                self.assertEqual(Turn(four * Four.whole(number)).four, lead)
            self.assertEqual(Turn(-four).four, lead)
            self.assertIn(four, [lead * Four.whole(sign * four.content()) for sign in (1, -1)])

    def test_named_ones(self):
        self.assertEqual(Turn(Four(2, 2, 2, 2)).four, Four(1, 1, 1, 1))
        self.assertEqual(Turn(Four(0, -4, 2, 0)).four, Four(0, 4, -2, 0))
        self.assertEqual(Turn(Four(-3, 9, 3, -3)).four, Four(1, -3, -1, 1))
        self.assertEqual(Turn(Four(0, 0, 0, -10)).four, Four(0, 0, 0, 2))
        self.assertEqual(Turn.still().four, Four(2, 0, 0, 0))

    def test_zero(self):
        for call in (lambda: Turn(Four(0, 0, 0, 0)), lambda: Turn(Four.whole(0)), lambda: Turn.read("0")):
            with self.assertRaises(InvalidFour) as caught:
                call()
            self.assertEqual(caught.exception.given, (0, 0, 0, 0))

    def test_read(self):
        for four in FOURS[::7] + LONG:
            self.assertEqual(Turn.read(four.text()).four, Turn(four).four)
        for text in ("", "00", "-0", "1+", "i+1", "1 ", "1i", "[1]", "2/2", "a", "1\n"):
            with self.assertRaises(ParseError) as caught:
                Turn.read(text)
            self.assertEqual(caught.exception.at, 0)

    def test_equality(self):
        fours = FOURS[::47]
        for one, other in itertools.product(fours, fours):
            alike = table_of(one) == table_of(other)
            self.assertIs(Turn(one) == Turn(other), alike)
            self.assertIs(Turn(one) != Turn(other), not alike)
        self.assertTrue(Turn(Four(2, 2, 0, 0)) == Turn(Four(-6, -6, 0, 0)))
        self.assertFalse(Turn(Four(2, 2, 0, 0)) == Turn(Four(2, -2, 0, 0)))

    def test_not_equal_to_other_values(self):
        still = Turn.still()
        for value in (1, "1", "Turn(1)", None, True, (2, 0, 0, 0), Four(2, 0, 0, 0), [], object(), mock.ANY):
            self.assertFalse(still == value)
            self.assertTrue(still != value)

    def test_repr(self):
        self.assertEqual(repr(Turn.read("1+i")), "Turn(1+i)")
        self.assertEqual(repr(Turn(Four(-2, -6, 0, 4))), "Turn(1+3i-2k)")
        self.assertEqual(repr(Turn(Four(-2, -2, 2, 2))), "Turn(1/2+1/2i-1/2j-1/2k)")

    def test_properties_cannot_be_assigned(self):
        turn = Turn.read("2+i")
        for name in ("four", "spread"):
            with self.assertRaises(AttributeError):
                setattr(turn, name, getattr(turn, name))

    def test_still(self):
        for point in POINTS:
            self.assertEqual(Turn.still().image(point), (point, 1))


class Tables(unittest.TestCase):
    def check_tables(self, four):
        turn = Turn(four)
        table = table_of(four)
        self.assertEqual(turn.spread, least_multiple(table))
        self.assertEqual(turn.spread % 2, 1)
        self.assertIs(type(turn.spread), int)
        self.assertEqual(turn.rows(), [tuple([entry * turn.spread for entry in row]) for row in table])
        self.assertTrue(all(type(row) is tuple and all(type(entry) is int for entry in row) for row in turn.rows()))

    def test_rows_and_spread(self):
        for four in FOURS + LONG:
            self.check_tables(four)

    def check_image(self, four, point):
        turn = Turn(four)
        image = turn.image(point)
        self.assertEqual(fractions_of(image), carried(four, point))
        self.assertEqual(image[1], math.lcm(*[part.denominator for part in carried(four, point)]))
        self.assertEqual(math.gcd(*image[0], image[1]), 1)
        self.assertGreater(image[1], 0)
        self.assertEqual([type(image), type(image[0]), type(image[1])], [tuple, tuple, int])
        self.assertTrue(all(type(element) is int for element in image[0]))
        self.assertEqual(turn(point), image)

    def test_images(self):
        for four, point in itertools.product(FOURS[::13] + LONG, [*POINTS, *AXES, (10 ** 9 - 1, 1, 1 - 10 ** 9)]):
            self.check_image(four, point)

    def test_images_in_lowest_terms(self):
        turn = Turn.read("2+i")
        self.assertEqual(turn((0, 5, 0)), ((0, 3, 4), 1))
        self.assertEqual(turn((1, 1, 0)), ((5, 3, 4), 5))
        self.assertEqual(turn((0, 0, 0)), ((0, 0, 0), 1))
        self.assertEqual(turn((-7, 0, 0)), ((-7, 0, 0), 1))

    def test_example(self):
        turn = Turn.read("2+i")
        self.assertEqual([turn.rows(), turn.spread], [[(5, 0, 0), (0, 3, -4), (0, 4, 3)], 5])

    def test_rows_are_a_new_list(self):
        turn = Turn.read("2+i")
        turn.rows().clear()
        self.assertEqual(len(turn.rows()), 3)
        self.assertIs(type(turn.rows()), list)


class Products(unittest.TestCase):
    def test_the_second_turn_is_done_first(self):
        for one, other in itertools.product(TURNS, TURNS):
            table, other_table = table_of(one.four), table_of(other.four)
            product = one * other
            for point in POINTS[:5]:
                twice = applied(table, applied(other_table, point))
                self.assertEqual(fractions_of(product.image(point)), twice)
        self.assertEqual(Turn.read("i") * Turn.read("1+j"), Turn.read("i+k"))

    def test_inverses(self):
        for turn in TURNS + [Turn(four) for four in LONG]:
            self.assertEqual(-turn * turn, Turn.still())
            self.assertEqual(turn * -turn, Turn.still())
            self.assertEqual(-(-turn), turn)
            self.assertEqual((-turn).spread, turn.spread)
            rows = turn.rows()
            self.assertEqual((-turn).rows(), [tuple([row[at] for row in rows]) for at in range(3)])

    def test_powers(self):
        for turn in TURNS[:6] + Turn.cube()[::5]:
            there, back = table_of(turn.four), table_of(turn.four.mirrored())
            for times in range(-20, 21):
                power = turn.power(times)
                for point in POINTS[:3]:
                    place = point
                    for time in range(abs(times)):
                        place = applied(there if times > 0 else back, place)
                    self.assertEqual(fractions_of(power.image(point)), tuple([Fraction(part) for part in place]))

    def test_powers_as_products(self):
        for turn in TURNS:
            self.assertEqual(turn.power(0), Turn.still())
            self.assertEqual(turn.power(1), turn)
            self.assertEqual(turn.power(-1), -turn)
            self.assertEqual(turn.power(3), turn * turn * turn)
            self.assertEqual(turn.power(20) * turn.power(-13), turn.power(7))

    def test_results_may_be_passed_back(self):
        great = Turn(Four(999999999, -999999997, 3, 77)).power(20)
        self.assertEqual(great * great.power(-1), Turn.still())
        place, number = great.image((1, 2, 3))
        self.assertEqual((-great).image(place), ((number, 2 * number, 3 * number), 1))
        self.assertEqual(Turn.read(great.four.text()), great)

    def test_operands_stay(self):
        one, other = Turn.read("2+i"), Turn.read("1+j+k")
        results = [one * other, -one, one.power(5), one((1, 2, 3)), one.rows()]
        kept = one
        one *= other
        self.assertEqual(one, results[0])
        self.assertEqual([repr(kept), repr(other)], ["Turn(2+i)", "Turn(1+j+k)"])


class Cube(unittest.TestCase):
    def test_just_those_with_spread_1(self):
        cube = Turn.cube()
        self.assertEqual(len(cube), 24)
        for turn in cube:
            self.assertEqual(turn.spread, 1)
            self.assertEqual(least_multiple(table_of(turn.four)), 1)
        self.assertEqual(len({str(turn.rows()) for turn in cube}), 24)
        for four in FOURS:
            self.assertIs(Turn(four) in cube, least_multiple(table_of(four)) == 1)

    def test_ascending_halves(self):
        halves = [turn.four.halves for turn in Turn.cube()]
        self.assertEqual(halves, sorted(halves))

    def test_all_signed_exchanges_of_the_axes(self):
        tables = []
        for order in itertools.permutations(range(3)):
            for signs in itertools.product((1, -1), repeat=3):
                table = [tuple([signs[at] if place == order[at] else 0 for place in range(3)]) for at in range(3)]
                flips = sum(order[a] > order[b] for a, b in itertools.combinations(range(3), 2))
                if math.prod(signs) * (-1) ** flips == 1:
                    tables.append(table)
        self.assertEqual(sorted(turn.rows() for turn in Turn.cube()), sorted(tables))

    def test_closed_under_products(self):
        cube = Turn.cube()
        for one, other in itertools.product(cube, cube):
            self.assertIn(one * other, cube)
        for turn in cube:
            self.assertIn(-turn, cube)

    def test_new_list_each_time(self):
        first = Turn.cube()
        self.assertIs(type(first), list)
        first.reverse()
        first.pop()
        self.assertEqual(len(Turn.cube()), 24)
        self.assertEqual(Turn.cube()[0], Turn.read("k"))


class Keywords(unittest.TestCase):
    def test_keywords(self):
        turn = Turn(four=Four.read("2+i"))
        self.assertEqual(Turn.read(text="2+i"), turn)
        self.assertEqual(turn.image(point=(0, 5, 0)), ((0, 3, 4), 1))
        self.assertEqual(turn(point=(0, 5, 0)), ((0, 3, 4), 1))
        self.assertEqual(turn.power(times=-1), -turn)


if __name__ == "__main__":
    unittest.main()
