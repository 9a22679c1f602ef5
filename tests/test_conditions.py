"""What conditions say of points: of single ones, and of all points at once."""

import itertools
import random
import unittest
from fractions import Fraction
from math import gcd, lcm

from grainmeet.conditions import fraction, holds, names_in, read_condition, same, witness
from grainmeet.errors import CapacityExceeded, UnknownName
from grainmeet.grains import Grain
from grainmeet.listing import grains_at
from grainmeet.turns import Turn
from samples import belongs, box, some_condition

ALL = {number: grains_at(number) for number in range(1, 41, 2)}
SETS = ("a", "b", "c", "d")


def order(point):
    return max(abs(coordinate) for coordinate in point), point


ORDERED = sorted(box(9), key=order)


def some_named(source, numbers):
    """A dict of one to four grains with spreads among some numbers."""
    names = SETS[:source.randint(1, 4)]
    return {name: source.choice(ALL[source.choice(numbers)]) for name in names}


def told(condition, inside):
    """Whether a condition is true, with a dict of what each name says."""
    kind, *parts = condition
    if kind == "in":
        return inside[parts[0]]
    said = [told(one, inside) for one in parts]
    return {"not": not said[0], "and": all(said), "or": any(said)}[kind]


def members(rings, point):
    """Which grains a point belongs to, by their rings."""
    return {name: sum(u * x for u, x in zip(row, point)) % number == 0 for name, (number, row) in rings.items()}


def rings_of(grains):
    return {name: grain.ring() for name, grain in grains.items()}


def counted_fraction(condition, grains):
    """The fraction of the points of a box that repeats itself in all directions."""
    rings = rings_of(grains)
    side = lcm(*[number for number, row in rings.values()])
    points = itertools.product(range(side), repeat=3)
    return Fraction(sum(told(condition, members(rings, point)) for point in points), side ** 3)


class Points(unittest.TestCase):
    def test_points_of_a_box(self):
        source = random.Random(161)
        for time in range(60):
            grains = some_named(source, range(1, 41, 2))
            condition = some_condition(source, 4, list(grains))
            for point in source.sample(ORDERED, 30) + ORDERED[:10]:
                inside = {name: belongs(grain.four, point) for name, grain in grains.items()}
                self.assertIs(holds(condition, grains, point), told(condition, inside))

    def test_one_grain(self):
        grains = {"a": Grain(Turn.read("2+i"))}
        for text, one, other in (("a", True, False), ("not a", False, True), ("a or not a", True, True),
                                 ("a and not a", False, False)):
            self.assertIs(holds(read_condition(text), grains, (0, 3, 4)), one)
            self.assertIs(holds(read_condition(text), grains, (0, 1, 0)), other)

    def test_great_coordinates(self):
        grains = {"a": Grain(Turn.read("2+i"))}
        self.assertIs(holds(("in", "a"), grains, (10 ** 9 - 1, 3 * 10 ** 8, 4 * 10 ** 8)), True)
        self.assertIs(holds(("in", "a"), grains, (10 ** 9 - 1, 3 * 10 ** 8, 4 * 10 ** 8 + 1)), False)

    def test_keywords(self):
        self.assertIs(holds(point=(0, 0, 0), grains={"a": Grain.plain()}, condition=("in", "a")), True)


class Fractions(unittest.TestCase):
    def check(self, condition, grains, counted):
        found = fraction(condition, grains)
        self.assertIs(type(found), tuple)
        self.assertEqual(Fraction(*found), counted)
        self.assertEqual(gcd(*found), 1)
        self.assertGreater(found[1], 0)

    def test_table(self):
        grains = {"a": Grain(Turn.read("2+i")), "b": Grain(Turn.read("1+i+j")), "w": Grain.plain(),
                  "c": Grain(Turn.read("2-i"))}
        told = {"a": (1, 5), "not a": (4, 5), "b": (1, 3), "a and b": (1, 15), "a or b": (7, 15), "w": (1, 1),
                "not w": (0, 1), "a or not a": (1, 1), "a and not a": (0, 1), "a and c": (1, 25), "a or c": (9, 25),
                "not ( a or c )": (16, 25), "a and not c": (4, 25), "( a or b ) and not ( a and b )": (2, 5)}
        for text, pair in told.items():
            self.assertEqual(fraction(read_condition(text), grains), pair, text)

    def test_boxes_that_repeat_themselves(self):
        source = random.Random(162)
        for numbers, times in (((1, 3), 40), ((3, 9), 25), ((1, 3, 5, 15), 25), ((1, 7), 25), ((7, 21), 6),
                               ((5, 25), 5), ((11,), 8)):
            for time in range(times):
                grains = some_named(source, numbers)
                condition = some_condition(source, 4, list(grains))
                used = {name: grains[name] for name in names_in(condition)}
                self.check(condition, used, counted_fraction(condition, used))

    def test_each_spread_up_to_40(self):
        source = random.Random(163)
        for number in range(1, 41, 2):
            grains = {"a": source.choice(ALL[number])}
            self.check(("in", "a"), grains, Fraction(1, number))
            self.check(("not", ("in", "a")), grains, Fraction(number - 1, number))

    def test_coprime_spreads(self):
        source = random.Random(164)
        grains = {name: source.choice(ALL[number]) for name, number in zip(SETS, (39, 37, 35, 31))}
        shares = [Fraction(1, 39), Fraction(1, 37), Fraction(1, 35), Fraction(1, 31)]
        none = 1
        for share in shares:
            none *= 1 - share
        self.check(read_condition("a or b or c or d"), grains, 1 - none)
        self.check(read_condition("a and not b or c and d"), grains, 1 - (1 - shares[0] * (1 - shares[1])) * (
            1 - shares[2] * shares[3]))

    def test_one_grain_under_two_names(self):
        grains = {"a": ALL[25][3], "b": ALL[25][3]}
        self.assertEqual(fraction(read_condition("a and b"), grains), (1, 25))
        self.assertEqual(fraction(read_condition("a and not b"), grains), (0, 1))

    def test_great_spreads(self):
        grains = {"a": Grain(Turn.read("999999998+i")), "b": Grain(Turn.read("999999998-j"))}
        number = grains["a"].spread
        self.assertEqual(fraction(("in", "a"), grains), (1, number))
        self.assertEqual(fraction(read_condition("not a"), grains), (number - 1, number))

    def test_keywords(self):
        self.assertEqual(fraction(grains={"a": Grain.plain()}, condition=("in", "a")), (1, 1))


class Comparing(unittest.TestCase):
    def differ(self, one, other, rings, point):
        inside = members(rings, point)
        return told(one, inside) != told(other, inside)

    def check(self, one, other, grains):
        """Both answers, against all points of a box."""
        rings = rings_of(grains)
        first = next((point for point in ORDERED if self.differ(one, other, rings, point)), None)
        found = witness(one, other, grains)
        self.assertIs(same(one, other, grains), found is None)
        if first is not None:
            self.assertEqual(found, first)
        elif found is not None:
            self.assertGreater(order(found)[0], 9)
            self.assertTrue(self.differ(one, other, rings, found))
        return found

    def test_some_conditions(self):
        source = random.Random(165)
        answers = []
        for time in range(250):
            grains = some_named(source, range(1, 41, 2))
            one, other = [some_condition(source, 4, list(grains)) for place in range(2)]
            answers.append(self.check(one, other, grains))
        self.assertGreater(len(set(answers)), 20)
        self.assertIn(None, answers)

    def test_close_conditions(self):
        source = random.Random(166)
        answers = []
        for time in range(120):
            grains = some_named(source, range(3, 41, 2))
            one = some_condition(source, 3, list(grains))
            name = source.choice(list(grains))
            other = ("and", one, ("or", ("in", name), some_condition(source, 3, list(grains))))
            answers.append(self.check(one, other, grains))
        self.assertGreater(len(set(answers)), 20)

    def test_laws(self):
        source = random.Random(167)
        for one, other in (("a and b", "b and a"), ("not ( a and b )", "not a or not b"), ("a", "not not a"),
                           ("a and ( b or c )", "a and b or a and c"), ("a or not a", "b or not b"),
                           ("not ( a or b or c or d )", "not a and not b and not c and not d"), ("a", "a or a and d")):
            for time in range(4):
                grains = {name: source.choice(ALL[source.choice(range(1, 41, 2))]) for name in SETS}
                self.assertIs(same(read_condition(one), read_condition(other), grains), True)
                self.assertIsNone(witness(read_condition(one), read_condition(other), grains))

    def test_grains_that_make_the_same(self):
        far = ALL[15][7]
        five, three = [next(grain for grain in ALL[number] if all(point in grain for point in ORDERED if point in far))
                       for number in (5, 3)]
        grains = {"a": far, "b": five, "c": three}
        for one, other in (("a", "b and c"), ("a", "a and b"), ("c", "c or a")):
            self.assertIs(same(read_condition(one), read_condition(other), grains), True)
            self.assertIsNone(witness(read_condition(one), read_condition(other), grains))
        self.assertIsNotNone(self.check(("in", "a"), ("in", "b"), grains))

    def test_the_first_point(self):
        grains = {"a": Grain(Turn.read("2+i")), "w": Grain.plain()}
        told = {("a", "not a"): (0, 0, 0), ("a", "w"): (-1, -1, -1), ("w", "a"): (-1, -1, -1),
                ("a", "a and not w"): (0, 0, 0), ("a or not w", "not a and w"): (0, 0, 0)}
        for (one, other), point in told.items():
            self.assertEqual(witness(read_condition(one), read_condition(other), grains), point)
        two = {"a": Grain(Turn.read("2+i")), "b": Grain(Turn.read("2-i"))}
        self.assertEqual(witness(("in", "a"), ("in", "b"), two), self.check(("in", "a"), ("in", "b"), two))

    def check_about_an_axis(self, texts):
        """The witness of three of four grains about the first axis, by all points of a plane."""
        grains = {name: Grain(Turn.read(text)) for name, text in zip(SETS, texts)}
        rings = rings_of(grains)
        one, other = read_condition("a and b and c"), read_condition("a and b and c and d")
        bound = order(witness(one, other, grains))[0]
        plane = [(0, y, z) for y in range(-bound, bound + 1) for z in range(-bound, bound + 1)]
        found = [order(point)[0] for point in plane if self.differ(one, other, rings, point)]
        self.assertEqual(min(found), bound)
        first = min([(-bound, y, z) for x, y, z in plane if self.differ(one, other, rings, (0, y, z))])
        self.assertEqual(witness(one, other, grains), first)
        return bound

    def test_far_witnesses(self):
        self.assertEqual(self.check_about_an_axis(("5-2i", "6-i", "6+i", "4-i")), 185)
        self.assertEqual(self.check_about_an_axis(("4-3i", "5+2i", "6+i", "4-i")), 163)

    def test_an_empty_region_beside_a_far_one(self):
        grains = {"a": Grain(Turn.read("6+i")), "b": Grain(Turn.read("6-i")), "c": Grain(Turn.read("5-2i")),
                  "d": Grain(Turn.read("5-2i"))}
        one, other = read_condition("a and b"), read_condition("a and b and c or d and not c")
        self.assertEqual(witness(one, other, grains), (-37, -37, -37))
        self.assertIs(same(one, other, grains), False)
        self.assertIsNone(witness(("in", "c"), read_condition("c or d and not c"), grains))

    def test_keywords(self):
        grains = {"a": Grain.plain()}
        self.assertIs(same(grains=grains, other=("in", "a"), one=("in", "a")), True)
        self.assertEqual(witness(grains=grains, other=("in", "a"), one=("not", ("in", "a"))), (0, 0, 0))


class Errors(unittest.TestCase):
    def each_call(self, one, other, grains):
        """The calls about one condition, and those about both."""
        return ([lambda: holds(one, grains, (0, 0, 0)), lambda: fraction(one, grains)],
                [lambda: same(one, other, grains), lambda: witness(one, other, grains)])

    def check_raised(self, calls, error, field, value):
        for call in calls:
            with self.assertRaises(error) as caught:
                call()
            self.assertEqual(getattr(caught.exception, field), value)

    def test_the_first_unknown_name(self):
        grains = {"a": Grain.plain(), "b": ALL[3][0]}
        for one, other, name in (("x", "y", "x"), ("a or ( y and x )", "z", "y"), ("not ( b and x ) or y", "a", "x"),
                                 ("a and not a and x", "a", "x"), ("a or x", "y", "x")):
            single, double = self.each_call(read_condition(one), read_condition(other), grains)
            self.check_raised(single + double, UnknownName, "name", name)
        single, double = self.each_call(read_condition("a or b"), read_condition("b and z or y"), grains)
        self.check_raised(double, UnknownName, "name", "z")
        self.assertEqual([call() for call in single], [True, (1, 1)])

    def test_more_than_four_names(self):
        grains = {name: Grain.plain() for name in "abcdef"}
        five = read_condition("a or b or c or d or e")
        for other in ("a", "f", "a and b"):
            single, double = self.each_call(five, read_condition(other), grains)
            self.check_raised(single + double, CapacityExceeded, "most", 4)
        single, double = self.each_call(read_condition("a and b or c"), read_condition("d or e"), grains)
        self.check_raised(double, CapacityExceeded, "most", 4)
        self.assertEqual([call() for call in single], [True, (1, 1)])
        for call in self.each_call(read_condition("a or b or c and d"), read_condition("d or c or b or a"), grains):
            self.assertEqual(len([one() for one in call]), 2)

    def test_unknown_names_come_first(self):
        grains = {name: Grain.plain() for name in "abcdef"}
        one = read_condition("a or b or c or d or e or f or x")
        single, double = self.each_call(one, ("in", "y"), grains)
        self.check_raised(single + double, UnknownName, "name", "x")
        double = self.each_call(read_condition("a or b or c"), read_condition("d or e or f or y"), grains)[1]
        self.check_raised(double, UnknownName, "name", "y")

    def test_other_grains_do_not_count(self):
        grains = {name: Grain.plain() for name in "abcdefgh"}
        self.assertEqual(fraction(read_condition("e or f or g or h"), grains), (1, 1))

    def test_arguments_stay(self):
        grains = {"b": ALL[3][0], "a": ALL[5][2]}
        kept = dict(grains)
        one, other = read_condition("a and not b"), read_condition("b")
        for calls in self.each_call(one, other, grains):
            for call in calls:
                call()
        self.assertEqual((grains, list(grains)), (kept, list(kept)))


if __name__ == "__main__":
    unittest.main()
