"""Grains: their fours, points and coordinates, their spreads and turned grains."""

import itertools
import math
import unittest
from unittest import mock

from grainmeet.fours import Four
from grainmeet.grains import Grain, relative, spread
from grainmeet.turns import Turn
from samples import applied, belongs, box, carried, small_fours, some_grains, some_points, some_turns, table_of

SMALL = [four for four in small_fours(3) if four][::11]
TURNS = [Turn(four) for four in SMALL[::4]] + some_turns(61, 30)
GRAINS = some_grains(62, 14, 99) + some_grains(63, 6)
NINE_DIGITS = (10 ** 9 - 1, 1, 1 - 10 ** 9)


def spread_of_tables(one, other):
    """The spread of the inverse of the turn of a four, done after that of another one, by its table."""
    back = list(zip(*table_of(one)))
    columns = [applied(back, column) for column in zip(*table_of(other))]
    return math.lcm(*[entry.denominator for column in columns for entry in column])


class Construction(unittest.TestCase):
    def test_the_four_of_the_document(self):
        cube = Turn.cube()
        for turn in TURNS:
            # All fours of content 1 whose turns give the grain, by all turns of the cube that are done first.
            leads = [(turn * first).four for first in cube]
            odd = [lead for lead in leads + [-lead for lead in leads] if lead.size % 2]
            self.assertEqual(len(odd), 24)
            grain = Grain(turn)
            self.assertEqual(grain.four.halves, max(four.halves for four in odd))
            self.assertEqual([grain.four.size % 2, grain.four.content()], [1, 1])

    def test_same_grain_behind_any_turn_of_the_cube_done_first(self):
        for turn in TURNS:
            grain = Grain(turn)
            for first in Turn.cube():
                self.assertTrue(Grain(turn * first) == grain)
                self.assertEqual(Grain(turn * first).four, grain.four)

    def test_other_grains_behind_other_turns(self):
        for one, other in itertools.product(TURNS[::3], TURNS[::3]):
            alike = (-one * other).spread == 1
            self.assertIs(Grain(one) == Grain(other), alike)
            self.assertIs(Grain(one) != Grain(other), not alike)

    def test_equal_exactly_if_the_points_are_the_same(self):
        grains = [Grain(Turn(four)) for four in SMALL[::5] if Turn(four).spread < 8]
        points = box(4)
        lists = [[point for point in points if belongs(grain.four, point)] for grain in grains]
        for (one, first), (other, second) in itertools.product(zip(grains, lists), repeat=2):
            self.assertIs(one == other, first == second)

    def test_turn_and_spread(self):
        for turn in TURNS:
            grain = Grain(turn)
            self.assertEqual(grain.turn, Turn(grain.four))
            self.assertEqual(grain.turn.four, grain.four)
            self.assertEqual(grain.spread, turn.spread)
            self.assertEqual(grain.spread, spread(Grain.plain(), grain))
            self.assertIs(type(grain.spread), int)

    def test_plain(self):
        plain = Grain.plain()
        self.assertEqual([plain.four, plain.turn, plain.spread], [Four.whole(1), Turn.still(), 1])
        for turn in Turn.cube():
            self.assertEqual(Grain(turn), plain)
        for point in some_points(64, 40):
            self.assertIn(point, plain)
            self.assertEqual(plain.coordinates(point), point)

    def test_not_equal_to_other_values(self):
        plain = Grain.plain()
        others = (1, "1", "Grain(1)", None, True, (2, 0, 0, 0), Four(2, 0, 0, 0), Turn.still(), [], mock.ANY)
        for value in others:
            self.assertFalse(plain == value)
            self.assertTrue(plain != value)

    def test_repr(self):
        self.assertEqual(repr(Grain(Turn.read("2+i"))), "Grain(2+i)")
        self.assertEqual(repr(Grain(Turn.read("i"))), "Grain(1)")
        self.assertEqual(repr(Grain(Turn(Four(0, -2, 4, 0)))), "Grain(2+k)")
        self.assertEqual(repr(Grain(Turn(Four(2, 2, 2, 0)))), "Grain(3/2+1/2i-1/2j+1/2k)")

    def test_properties_cannot_be_assigned(self):
        grain = Grain(Turn.read("2+i"))
        for name in ("four", "turn", "spread"):
            with self.assertRaises(AttributeError):
                setattr(grain, name, getattr(grain, name))


class Points(unittest.TestCase):
    def check_point(self, grain, point):
        if belongs(grain.four, point):
            self.assertIs(point in grain, True)
            place = grain.coordinates(point)
            self.assertEqual([type(place), *map(type, place)], [tuple, int, int, int])
            self.assertEqual(grain.turn.image(place), (point, 1))
            self.assertEqual(place, carried(grain.four.mirrored(), point))
        else:
            self.assertIs(point in grain, False)
            self.assertIsNone(grain.coordinates(point))

    def test_points_of_a_box(self):
        for four in SMALL[::7]:
            for point in box(3):
                self.check_point(Grain(Turn(four)), point)

    def test_great_points(self):
        for grain in GRAINS:
            for point in [*some_points(65, 10, 10 ** 9 - 1), NINE_DIGITS, (0, 0, 0)]:
                self.check_point(grain, point)

    def test_turned_points_belong(self):
        for grain, point in itertools.product(GRAINS, some_points(66, 10)):
            place, number = grain.turn.image(point)
            multiple = tuple([number * element for element in point])
            self.assertIn(place, grain)
            self.assertEqual(grain.coordinates(place), multiple)
            self.check_point(grain, tuple([element + 1 for element in place]))

    def test_one_in_n_points_belongs(self):
        for text in ("1", "1+i+j", "2+i", "1+2i+j+k", "2+2i+j", "5/2+1/2i+3/2j+1/2k", "3+2i+j+k", "2+i+3j+k"):
            grain = Grain(Turn.read(text))
            cells = list(itertools.product(range(grain.spread), repeat=3))
            many = sum(point in grain for point in cells)
            self.assertEqual(many * grain.spread, len(cells), text)

    def test_example(self):
        grain = Grain(Turn.read("2+i"))
        told = [grain.spread, (0, 3, 4) in grain, (0, 1, 0) in grain, grain.coordinates((7, 0, 0))]
        self.assertEqual(told, [5, True, False, (7, 0, 0)])


class Spreads(unittest.TestCase):
    def test_spread_by_the_tables(self):
        for one, other in itertools.product(GRAINS, GRAINS):
            self.assertEqual(spread(one, other), spread_of_tables(one.four, other.four))

    def test_the_same_both_ways_and_behind_any_turn(self):
        for one, other in itertools.product(GRAINS, GRAINS):
            told = spread(one, other)
            self.assertEqual(spread(other, one), told)
            self.assertEqual(told == 1, one == other)
            for turn in TURNS[::9]:
                self.assertEqual(spread(one.turned(turn), other.turned(turn)), told)

    def test_each_divides_the_product_of_the_two_others(self):
        for one, two, three in itertools.combinations(GRAINS, 3):
            a, b, c = spread(one, two), spread(two, three), spread(three, one)
            self.assertEqual([a * b % c, b * c % a, c * a % b], [0, 0, 0])

    def test_relative(self):
        for one, other in itertools.product(GRAINS, GRAINS):
            found = relative(one, other)
            self.assertEqual(found.spread, spread(one, other))
            self.assertEqual(found.turned(one.turn), other)
            self.assertEqual(found, Grain(-one.turn * other.turn))
        for grain in GRAINS:
            self.assertEqual(relative(grain, grain), Grain.plain())
            self.assertEqual(relative(Grain.plain(), grain), grain)
            self.assertEqual(relative(grain, Grain.plain()), Grain(-grain.turn))

    def test_relative_by_points(self):
        grains = [Grain(Turn.read(text)) for text in ("1", "2+i", "1+i+j", "2+2j+k")]
        for one, other in itertools.product(grains, grains):
            found = relative(one, other)
            for point in box(3):
                place, number = one.turn.image(point)
                if number == 1:
                    self.assertEqual(point in found, place in other)

    def test_turned_by_points(self):
        for grain, turn in itertools.product(GRAINS[:8], TURNS[::12]):
            after = grain.turned(turn)
            self.assertEqual(after, Grain(turn * grain.turn))
            for point in some_points(67, 5):
                place, number = grain.turn.image(point)
                twice = applied(table_of(turn.four), place)
                whole = math.lcm(*[part.denominator for part in twice])
                self.assertIn(tuple([int(part * whole) for part in twice]), after)

    def test_turned_back(self):
        for grain, turn in itertools.product(GRAINS, TURNS[::7]):
            self.assertEqual(grain.turned(turn).turned(-turn), grain)
            self.assertEqual(grain.turned(Turn.still()), grain)

    def test_results_may_be_passed_back(self):
        great = Grain(Turn(Four(999999999, -999999997, 3, 77)).power(20))
        other = Grain(Turn(Four(3, 999999997, 999999999, 1)).power(-20))
        self.assertGreater(spread(great, other), 10 ** 500)
        self.assertEqual(relative(great, other).turned(great.turn), other)
        place, number = great.turn.image((1, 2, 3))
        self.assertEqual(great.coordinates(place), (number, 2 * number, 3 * number))
        self.assertEqual(repr(great), "Grain(" + great.four.text() + ")")

    def test_arguments_stay(self):
        grain, turn = Grain(Turn.read("2+i")), Turn.read("1+j+k")
        results = [grain.turned(turn), relative(grain, Grain(turn)), spread(grain, Grain(turn)), grain.ring()]
        self.assertEqual(len(results), 4)
        self.assertEqual([repr(grain), repr(turn)], ["Grain(2+i)", "Turn(1+j+k)"])


class Keywords(unittest.TestCase):
    def test_keywords(self):
        turn = Turn.read("2+i")
        grain = Grain(turn=turn)
        self.assertEqual(grain.coordinates(point=(0, 3, 4)), (0, 5, 0))
        self.assertEqual(grain.turned(turn=-turn), Grain.plain())
        self.assertEqual(relative(other=grain, one=Grain.plain()), grain)
        self.assertEqual(relative(other=Grain.plain(), one=grain), Grain(-turn))
        self.assertEqual(spread(other=grain, one=Grain.plain()), 5)


if __name__ == "__main__":
    unittest.main()
