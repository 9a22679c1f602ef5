"""Grids: the points that some grains share."""

import inspect
import itertools
import math
import random
import unittest
from unittest import mock

from grainmeet.fours import Four
from grainmeet.grains import Grain
from grainmeet.grids import Grid, shared
from grainmeet.listing import grains_at
from grainmeet.turns import Turn
from samples import belongs, box, some_grains, some_points

PLAIN = Grain.plain()
SMALL = [PLAIN, *grains_at(3), *grains_at(5)[:2], grains_at(9)[3], grains_at(9)[7], grains_at(15)[9]]
GREAT = some_grains(101, 8)
POINTS = box(4)


def in_all(grains, point):
    return all(belongs(grain.four, point) for grain in grains)


def box_of(bound, grains):
    """The points with coordinates from -bound to bound that belong to all grains, in ascending order."""
    return [point for point in box(bound) if all(point in grain for grain in grains)]


def determinant(rows):
    (a, b, c), (d, e, f), (g, h, i) = rows
    return a * (e * i - f * h) - b * (d * i - f * g) + c * (d * h - e * g)


def some_choices(seed, many):
    """Short lists of grains, with some grains twice."""
    source = random.Random(seed)
    return [[source.choice(SMALL) for place in range(source.randint(0, 4))] for time in range(many)]


class Points(unittest.TestCase):
    def test_points_of_a_box(self):
        for grains in some_choices(102, 40):
            grid = shared(*grains)
            for point in POINTS[::3]:
                self.assertIs(point in grid, in_all(grains, point))

    def test_great_points(self):
        for grains in some_choices(103, 20):
            grid = shared(*grains)
            for point in some_points(104, 60, 10 ** 9 - 1):
                near = tuple([element // 45 * 45 for element in point])
                for tried in (point, near):
                    self.assertIs(tried in grid, in_all(grains, tried))

    def test_great_grains(self):
        for one, other in itertools.combinations(GREAT, 2):
            grid = shared(one, other)
            for row in grid.basis():
                self.assertIn(row, grid)
                for step in box(1):
                    point = tuple([element + more for element, more in zip(row, step)])
                    self.assertIs(point in grid, in_all([one, other], point))

    def test_whole(self):
        whole = Grid.whole()
        self.assertEqual(whole.basis(), [(1, 0, 0), (0, 1, 0), (0, 0, 1)])
        self.assertEqual(whole.one_in, 1)
        for point in some_points(105, 50, 10 ** 9):
            self.assertIn(point, whole)

    def test_points_in_order(self):
        for grains in some_choices(106, 12):
            grid = shared(*grains)
            for bound in (0, 1, 2, 5, 7):
                self.assertEqual(list(grid.points(bound)), box_of(bound, grains))

    def test_points_in_wide_steps(self):
        wide = [pair for pair in itertools.combinations(grains_at(9), 2) if shared(*pair).basis()[0][0] > 1]
        steps = [shared(*pair).basis() for pair in wide]
        self.assertIn([(3, 2, 5), (0, 3, 3), (0, 0, 9)], steps)
        for pair in wide[::6]:
            self.assertEqual(list(shared(*pair).points(12)), box_of(12, pair))

    def test_points_of_all_bounds(self):
        grains = [grains_at(15)[9]]
        grid = shared(*grains)
        for bound in range(13):
            self.assertEqual(list(grid.points(bound)), box_of(bound, grains))
            self.assertEqual(len(list(Grid.whole().points(bound))), (2 * bound + 1) ** 3)

    def test_points_are_a_generator_of_tuples(self):
        points = Grid.whole().points(1)
        self.assertTrue(inspect.isgenerator(points))
        self.assertEqual(next(points), (-1, -1, -1))
        self.assertTrue(all(type(point) is tuple for point in points))

    def test_the_origin_alone(self):
        for grid in (Grid.whole(), shared(*GREAT), shared(*SMALL)):
            self.assertEqual(list(grid.points(0)), [(0, 0, 0)])
        self.assertEqual(list(shared(*GREAT).points(12)), [(0, 0, 0)])


class Basis(unittest.TestCase):
    def check_form(self, grid):
        basis = grid.basis()
        self.assertEqual([type(basis), *map(type, basis)], [list, tuple, tuple, tuple])
        (a, b, c), (zero, d, e), (none, nil, f) = basis
        self.assertEqual((zero, none, nil), (0, 0, 0))
        self.assertTrue(a > 0 and d > 0 and f > 0)
        self.assertTrue(0 <= b < d and 0 <= c < f and 0 <= e < f)
        self.assertEqual(grid.one_in, a * d * f)
        self.assertIs(type(grid.one_in), int)

    def test_form(self):
        for grains in [*some_choices(107, 60), *itertools.combinations(GREAT, 3), GREAT, SMALL]:
            grid = shared(*grains)
            self.check_form(grid)
            for row in grid.basis():
                self.assertTrue(in_all(grains, row))

    def test_one_in_against_all_points_of_a_box(self):
        for grains in some_choices(108, 25):
            side = math.lcm(*[grain.spread for grain in grains])
            if side <= 15:
                grid = shared(*grains)
                cells = list(itertools.product(range(side), repeat=3))
                many = sum(in_all(grains, point) for point in cells)
                self.assertEqual(many * grid.one_in, side ** 3)

    def test_sums_and_differences_are_all_points(self):
        for grains in some_choices(109, 10):
            grid = shared(*grains)
            (a, b, c), (zero, d, e), (none, nil, f) = grid.basis()
            for point in box_of(6, grains):
                first, rest = divmod(point[0], a)
                self.assertEqual(rest, 0)
                second, rest = divmod(point[1] - first * b, d)
                self.assertEqual(rest, 0)
                self.assertEqual((point[2] - first * c - second * e) % f, 0)

    def test_one_grain(self):
        for grain in SMALL + GREAT:
            self.assertEqual(shared(grain).one_in, grain.spread)
            self.assertEqual(determinant(shared(grain).basis()), grain.spread)

    def test_coprime_grains(self):
        self.assertEqual(shared(grains_at(3)[1], grains_at(5)[1], grains_at(7)[1]).one_in, 105)
        self.assertEqual(shared(grains_at(9)[1], grains_at(25)[1]).one_in, 225)
        self.assertEqual(shared(*grains_at(3)).one_in, 27)

    def test_named_ones(self):
        self.assertEqual(shared(Grain(Turn.read("2+i"))).basis(), [(1, 0, 0), (0, 1, 3), (0, 0, 5)])
        self.assertEqual(shared(Grain(Turn.read("2+k"))).basis(), [(1, 3, 0), (0, 5, 0), (0, 0, 1)])
        self.assertEqual(shared(Grain(Turn.read("2+j"))).basis(), [(1, 0, 2), (0, 1, 0), (0, 0, 5)])

    def test_a_new_list_each_time(self):
        grid = shared(SMALL[1])
        grid.basis().clear()
        self.check_form(grid)
        self.assertEqual(grid.one_in, 3)


class Grids(unittest.TestCase):
    def test_shared_in_any_order(self):
        for grains in some_choices(110, 15):
            grid = shared(*grains)
            for order in itertools.permutations(grains):
                self.assertEqual(shared(*order), grid)
                self.assertEqual(shared(*order).basis(), grid.basis())
            self.assertEqual(shared(*grains, *grains, PLAIN), grid)

    def test_shared_of_none(self):
        self.assertEqual(shared(), Grid.whole())
        self.assertEqual(shared(PLAIN), Grid.whole())

    def test_narrowed(self):
        for grains in some_choices(111, 15):
            grid = Grid.whole()
            for grain in grains:
                basis, one_in = grid.basis(), grid.one_in
                further = grid.narrowed(grain)
                self.assertEqual([grid.basis(), grid.one_in], [basis, one_in])
                self.assertTrue(further.within(grid))
                self.assertTrue(further.within(shared(grain)))
                self.assertEqual(further.narrowed(grain), further)
                grid = further
            self.assertEqual(grid, shared(*grains))

    def test_equal_exactly_if_the_points_are_the_same(self):
        choices = some_choices(112, 30)
        grids = [shared(*grains) for grains in choices]
        lists = [box_of(6, grains) for grains in choices]
        for (one, first), (other, second) in itertools.product(zip(grids, lists), repeat=2):
            if one.one_in <= 45 and other.one_in <= 45:
                self.assertIs(one == other, first == second)
                self.assertIs(one != other, first != second)

    def test_not_equal_to_other_values(self):
        whole = Grid.whole()
        others = (1, "Grid(one in 1)", None, True, PLAIN, Turn.still(), whole.basis(), tuple(whole.basis()), mock.ANY)
        for value in others:
            self.assertFalse(whole == value)
            self.assertTrue(whole != value)

    def test_within(self):
        choices = some_choices(113, 25)
        for one, other in itertools.product(choices, choices):
            told = all(in_all(other, row) for row in shared(*one).basis())
            self.assertIs(shared(*one).within(shared(*other)), told)
        for grains in choices:
            self.assertIs(shared(*grains).within(Grid.whole()), True)
            self.assertIs(Grid.whole().within(shared(*grains)), shared(*grains).one_in == 1)

    def test_repr(self):
        self.assertEqual(repr(Grid.whole()), "Grid(one in 1)")
        self.assertEqual(repr(shared(grains_at(15)[3])), "Grid(one in 15)")
        self.assertEqual(repr(shared(*grains_at(3))), "Grid(one in 27)")

    def test_grids_of_any_size(self):
        great = Grain(Turn(Four(999999999, -999999997, 3, 77)).power(20))
        for time in range(4):
            great = Grain(great.turn * great.turn)
        grid = shared(great, GREAT[0], GREAT[1])
        self.assertGreater(grid.one_in, 10 ** 5000)
        self.assertTrue(repr(grid).startswith("Grid(one in ") and repr(grid).endswith(")"))
        self.assertTrue(all(row in great and row in GREAT[0] for row in grid.basis()))

    def test_properties_cannot_be_assigned(self):
        with self.assertRaises(AttributeError):
            Grid.whole().one_in = 5

    def test_keywords(self):
        grid = Grid.whole().narrowed(grain=SMALL[1])
        self.assertEqual(grid, shared(SMALL[1]))
        self.assertIs(grid.within(other=Grid.whole()), True)
        self.assertEqual(list(grid.points(bound=3)), list(grid.points(3)))


if __name__ == "__main__":
    unittest.main()
