"""Blocks: each command with its errors in their order, and what a block tells."""

import itertools
import random
import unittest

from grainmeet.blocks import Block, PlainBlock
from grainmeet.errors import (
    CapacityExceeded, DuplicateMark, DuplicateName, InvalidCommand, InvalidFour, InvalidName, InvalidRing, TooFar,
    UnknownMark, UnknownName,
)
from grainmeet.fours import Four
from grainmeet.grains import Grain, relative
from grainmeet.listing import leans
from grainmeet.turns import Turn
from grainmeet.ways import is_midst, joined
from samples import BlockModel, belongs, raised_by, some_points, some_tuple, table_spread, told_by

EIGHT = "abcdefgh"
STILL, FIVE, THREE, ZERO = (2, 0, 0, 0), (4, 2, 0, 0), (2, 2, 2, 0), (0, 0, 0, 0)


def filled(*, limit=10000, names=EIGHT, halves=STILL):
    """A block with the same grain under some names."""
    block = Block(limit=limit)
    for name in names:
        block.apply(("put", name, halves))
    return block


def marked(many):
    """A block with so many marks."""
    block = Block()
    for at in range(many):
        block.apply(("mark", (at, 0, 0)))
    return block


class Checks(unittest.TestCase):
    def check_refused(self, block, command, error, field, value):
        """The error, and that nothing has changed."""
        before = told_by(block)
        with self.assertRaises(error, msg=command) as caught:
            block.apply(command)
        self.assertIs(type(caught.exception), error)
        self.assertEqual(getattr(caught.exception, field), value)
        self.assertEqual(told_by(block), before)
        others = [(kind, point) for point in block.marks()[:1] for kind in ("unmark", "mark")]
        with self.assertRaises(error):
            block.apply_all(*others, command)
        self.assertEqual(told_by(block), before)


class Put(Checks):
    def test_grains(self):
        for halves in (STILL, FIVE, THREE, (-4, -2, 0, 0), (1, 3, 5, 7), (2, 2, 0, 0), (0, 0, 0, 200)):
            block = Block()
            self.assertIsNone(block.apply(("put", "ann", halves)))
            self.assertEqual(block.grain("ann"), Grain(Turn(Four(*halves))))
            self.assertEqual(block.names(), ["ann"])

    def test_names_of_one_to_eight_letters(self):
        for name in ("a", "z", "in", "abcdefgh", "not"):
            block = filled(names=[name])
            self.assertEqual(block.names(), [name])
        for name in ("", "A", "abcdefghi", "a1", "a b", " ", "a\n", "(", "-"):
            self.check_refused(Block(), ("put", name, STILL), InvalidName, "name", name)

    def test_errors_in_order(self):
        full = filled()
        self.check_refused(full, ("put", "A", ZERO), InvalidName, "name", "A")
        self.check_refused(full, ("put", "", (1, 2)), InvalidName, "name", "")
        self.check_refused(full, ("put", "a", ZERO), DuplicateName, "name", "a")
        self.check_refused(full, ("put", "h", FIVE), DuplicateName, "name", "h")
        self.check_refused(full, ("put", "i", ZERO), CapacityExceeded, "most", 8)
        self.check_refused(full, ("put", "i", (1, 2)), CapacityExceeded, "most", 8)
        near = filled(limit=4, names="a")
        self.check_refused(near, ("put", "b", ZERO), InvalidFour, "given", ZERO)
        self.check_refused(near, ("put", "b", (4, 2, 0, 1)), InvalidFour, "given", (4, 2, 0, 1))
        self.check_refused(near, ("put", "b", FIVE), TooFar, "most", 4)
        self.check_refused(near, ("put", "a", FIVE), DuplicateName, "name", "a")
        near.apply(("put", "b", THREE))

    def test_no_halves_of_a_four(self):
        for halves in (ZERO, (), (2,), (2, 2, 2), (2, 2, 2, 2, 2), (1, 2, 3, 4), (1, 1, 1, 0), (0, 0, 0, 1)):
            self.check_refused(Block(), ("put", "a", halves), InvalidFour, "given", halves)

    def test_the_limit(self):
        for limit, fits in ((4, False), (5, True), (6, True)):
            block = filled(limit=limit, names="a")
            self.assertIs(raised_by(block.apply, ("put", "b", FIVE)) is None, fits)

    def test_one_far_grain_is_enough(self):
        block = filled(limit=12, names="ab", halves=FIVE)
        block.apply(("put", "c", STILL))
        self.check_refused(block, ("put", "d", (2, 2, 2, 0)), TooFar, "most", 12)
        block.apply(("drop", "a"))
        self.check_refused(block, ("put", "d", (2, 2, 2, 0)), TooFar, "most", 12)
        block.apply(("drop", "b"))
        block.apply(("put", "d", (2, 2, 2, 0)))

    def test_one_grain_may_be_anywhere(self):
        block = filled(limit=1, names="a", halves=(999999998, 2, 0, 0))
        self.assertEqual(block.grain("a").spread, 499999999 ** 2 + 1 >> 1)
        self.check_refused(block, ("put", "b", STILL), TooFar, "most", 1)
        block.apply(("put", "b", (999999998, 2, 0, 0)))


class Drop(Checks):
    def test_drop(self):
        block = filled(names="abc")
        self.assertIsNone(block.apply(("drop", "b")))
        self.assertEqual(block.names(), ["a", "c"])
        self.check_refused(block, ("drop", "b"), UnknownName, "name", "b")
        self.check_refused(block, ("drop", "B"), UnknownName, "name", "B")
        self.check_refused(Block(), ("drop", ""), UnknownName, "name", "")

    def test_room_again(self):
        block = filled()
        block.apply(("drop", "d"))
        block.apply(("put", "x", FIVE))
        self.assertEqual(block.names(), list("abcefghx"))


class Turning(Checks):
    def test_turn(self):
        block = filled(names="a", halves=THREE)
        self.assertIsNone(block.apply(("turn", "a", FIVE)))
        self.assertEqual(block.grain("a"), Grain(Turn.read("2+i") * Turn.read("1+i+j")))
        block.apply(("turn", "a", (4, -2, 0, 0)))
        self.assertEqual(block.grain("a"), Grain(Turn.read("1+i+j")))

    def test_errors_in_order(self):
        block = filled(limit=4, names="ab")
        self.check_refused(block, ("turn", "c", ZERO), UnknownName, "name", "c")
        self.check_refused(block, ("turn", "", FIVE), UnknownName, "name", "")
        self.check_refused(block, ("turn", "a", ZERO), InvalidFour, "given", ZERO)
        self.check_refused(block, ("turn", "a", (1, 2)), InvalidFour, "given", (1, 2))
        self.check_refused(block, ("turn", "a", FIVE), TooFar, "most", 4)

    def test_the_grain_itself_does_not_count(self):
        block = filled(limit=5, names="a", halves=FIVE)
        block.apply(("turn", "a", (6, 4, 0, 0)))
        self.assertEqual(block.grain("a").spread, 65)


class Lean(Checks):
    def test_rings_in_the_coordinates_of_the_grain(self):
        for number, row in ((3, (1, 1, 1)), (5, (0, 3, 4)), (9, (1, 2, 2)), (1, (0, 0, 0)), (15, (1, 2, 5))):
            for halves in (STILL, FIVE, (3, 1, 1, 1)):
                block = filled(names="a", halves=halves)
                self.assertIsNone(block.apply(("lean", "a", number, row)))
                leaning = relative(Grain(Turn(Four(*halves))), block.grain("a"))
                self.assertEqual(leaning, Grain.of_ring(number, row))
                self.assertEqual(leaning.spread, number)
                for point in some_points(171, 20):
                    product = sum(u * x for u, x in zip(row, point))
                    self.assertIs(point in leaning, product % number == 0)

    def test_elements_count_by_their_rests(self):
        for row in ((0, 3, 4), (5, -2, -1), (-10, 3, 9), (5 * 10 ** 29, 5 * 10 ** 28 + 3, -1 - 5 * 10 ** 29)):
            block = filled(names="a")
            block.apply(("lean", "a", 5, row))
            self.assertEqual(block.grain("a"), Grain.of_ring(5, (0, 3, 4)))
            self.assertEqual(block.commands()[-1], ("lean", "a", 5, row))
        block.apply(("lean", "a", 1, (7, -8, 10 ** 20)))
        self.assertEqual(block.grain("a"), Grain.of_ring(5, (0, 3, 4)))

    def test_errors_in_order(self):
        block = filled(limit=4, names="ab")
        self.check_refused(block, ("lean", "c", 4, (1, 1, 1)), UnknownName, "name", "c")
        for number, row in ((4, (1, 1, 1)), (0, (0, 0, 0)), (-3, (1, 1, 1)), (5, (1, 1, 1)), (3, (3, 0, -3)),
                            (5, (0, 0, 0)), (9, (3, 3, 3)), (2, (1, 1, 0)), (-1, (0, 0, 0))):
            self.check_refused(block, ("lean", "a", number, row), InvalidRing, "number", number)
        self.check_refused(block, ("lean", "a", 5, (0, 3, 4)), TooFar, "most", 4)
        block.apply(("lean", "a", 3, (1, 1, 1)))


class Swap(Checks):
    def test_swap(self):
        block = filled(names="a", halves=FIVE)
        block.apply(("put", "b", THREE))
        self.assertIsNone(block.apply(("swap", "a", "b")))
        self.assertEqual([block.grain("a"), block.grain("b")], [Grain(Turn.read("1+i+j")), Grain(Turn.read("2+i"))])
        block.apply(("swap", "b", "a"))
        self.assertEqual([block.grain("a"), block.grain("b")], [Grain(Turn.read("2+i")), Grain(Turn.read("1+i+j"))])

    def test_one_name_twice(self):
        block = filled(names="a", halves=FIVE)
        block.apply(("swap", "a", "a"))
        self.assertEqual(block.grain("a"), Grain(Turn.read("2+i")))
        self.assertEqual((block.history(), block.commands()[-1]), ((2, 0), ("swap", "a", "a")))

    def test_unknown_names_from_left_to_right(self):
        block = filled(names="a")
        for one, other, name in (("x", "y", "x"), ("a", "y", "y"), ("x", "a", "x"), ("x", "x", "x")):
            self.check_refused(block, ("swap", one, other), UnknownName, "name", name)

    def test_grains_that_are_too_far_by_now(self):
        block = filled(names="a")
        block.apply(("put", "b", FIVE))
        block.apply(("drop", "b"))
        block.limit = 1
        block.undo()
        block.apply(("swap", "a", "b"))
        self.assertEqual(block.grain("a"), Grain(Turn.read("2+i")))
        self.check_refused(block, ("turn", "a", STILL), TooFar, "most", 1)


class Midst(Checks):
    def test_midst(self):
        block = Block()
        for name, text in (("a", "2+i"), ("b", "1+i+j"), ("c", "3+2i")):
            block.apply(("put", name, Turn.read(text).four.halves))
        block.apply(("turn", "c", FIVE))
        self.assertIsNone(block.apply(("midst", "m", "a", "b", "c")))
        grains = [block.grain(name) for name in "abcm"]
        self.assertTrue(is_midst(*grains))
        block.apply(("midst", "n", "a", "a", "b"))
        self.assertEqual(block.grain("n"), block.grain("a"))

    def test_errors_in_order(self):
        full = filled()
        self.check_refused(full, ("midst", "M", "x", "y", "z"), InvalidName, "name", "M")
        self.check_refused(full, ("midst", "a", "x", "y", "z"), DuplicateName, "name", "a")
        self.check_refused(full, ("midst", "m", "x", "y", "z"), CapacityExceeded, "most", 8)
        self.check_refused(full, ("midst", "m", "a", "a", "a"), CapacityExceeded, "most", 8)
        block = filled(names="a")
        for three, name in (("xyz", "x"), ("ayz", "y"), ("aaz", "z"), ("xaa", "x"), ("axa", "x"), ("maa", "m")):
            self.check_refused(block, ("midst", "m", *three), UnknownName, "name", name)

    def test_the_midst_may_be_further_from_a_fourth_grain(self):
        """The midst has each of three primes from two of its grains; no grain has all of them."""
        three, five, seven = [leans(prime)[0] for prime in (3, 5, 7)]
        grains = {"a": joined(three, seven), "b": joined(three, five), "c": joined(five, seven)}
        block = Block(limit=35)
        for name, grain in grains.items():
            block.apply(("put", name, grain.four.halves))
        block.apply(("midst", "m", "a", "b", "c"))
        self.assertEqual(block.grain("m").spread, 105)
        block.undo()
        block.apply(("put", "x", STILL))
        self.check_refused(block, ("midst", "m", "a", "b", "c"), TooFar, "most", 35)
        block.change_limit(104)
        self.check_refused(block, ("midst", "m", "c", "a", "b"), TooFar, "most", 104)
        block.change_limit(105)
        block.apply(("midst", "m", "a", "b", "c"))


class Marks(Checks):
    def test_order_of_marking(self):
        block = Block()
        for point in ((3, 0, 0), (1, 0, 0), (2, 0, 0)):
            self.assertIsNone(block.apply(("mark", point)))
        self.assertEqual(block.marks(), [(3, 0, 0), (1, 0, 0), (2, 0, 0)])
        self.assertIsNone(block.apply(("unmark", (3, 0, 0))))
        self.assertEqual(block.marks(), [(1, 0, 0), (2, 0, 0)])
        block.apply(("mark", (3, 0, 0)))
        self.assertEqual(block.marks(), [(1, 0, 0), (2, 0, 0), (3, 0, 0)])

    def test_errors_in_order(self):
        full = marked(12)
        self.check_refused(full, ("mark", (3, 0, 0)), DuplicateMark, "point", (3, 0, 0))
        self.check_refused(full, ("mark", (0, 0, 1)), CapacityExceeded, "most", 12)
        self.check_refused(full, ("unmark", (0, 0, 1)), UnknownMark, "point", (0, 0, 1))
        full.apply(("unmark", (3, 0, 0)))
        full.apply(("mark", (0, 0, 1)))
        self.assertEqual(len(full.marks()), 12)
        self.check_refused(Block(), ("unmark", (0, 0, 0)), UnknownMark, "point", (0, 0, 0))


class Forms(Checks):
    def test_other_tuples(self):
        block = filled(names="ab")
        block.apply(("mark", (0, 0, 0)))
        for command in (
            (), ("",), ("x",), ("place", "c", STILL), ("Put", "c", STILL), ("put",), ("put", "c"),
            ("put", "c", STILL, 1), ("drop",), ("drop", "a", "b"), ("turn", "a"), ("turn", "a", FIVE, FIVE),
            ("lean", "a", 3), ("lean", "a", 3, (1, 1, 1), 0), ("lean", "a", 3, 1, 1, 1), ("swap", "a"),
            ("swap", "a", "b", "a"), ("midst", "m", "a", "b"), ("midst", "m", "a", "b", "a", "b"), ("mark",),
            ("mark", 1, 2, 3), ("unmark",), ("unmark", 0, 0, 0), ("undo",), ("redo",), ("limit", 5), ("names",),
        ):
            self.check_refused(block, command, InvalidCommand, "first", command[0] if command else None)


class Told(unittest.TestCase):
    def test_the_empty_block(self):
        for block in (Block(), PlainBlock()):
            self.assertEqual(told_by(block), {
                "fours": [], "marks": [], "limit": 10000, "widest": 1, "history": (0, 0), "commands": [], "length": 0,
                "busy": False,
            })
            self.assertEqual((block.names(), block.grains(), block.homes((1, 2, 3)), block.share()), ([], {}, [], 1))

    def test_class_values(self):
        self.assertEqual((Block.GRAINS, Block.MARKS, PlainBlock.GRAINS, PlainBlock.MARKS), (8, 12, 8, 12))
        self.assertTrue(issubclass(PlainBlock, Block))

    def test_ascending_order(self):
        block = filled(names="hbfadgce")
        self.assertEqual(block.names(), list("abcdefgh"))
        self.assertEqual(list(block.grains()), list("abcdefgh"))
        self.assertEqual(block.homes((0, 0, 0)), list("abcdefgh"))
        self.assertEqual(len(block), 8)

    def some_block(self, seed):
        source = random.Random(seed)
        block = Block()
        for time in range(40):
            raised_by(block.apply, some_tuple(source))
        return block

    def test_grains_and_homes(self):
        for seed in range(180, 190):
            block = self.some_block(seed)
            grains = block.grains()
            self.assertEqual({name: block.grain(name) for name in block.names()}, grains)
            for point in some_points(seed, 12, 6):
                homes = [name for name in sorted(grains) if belongs(grains[name].four, point)]
                self.assertEqual(block.homes(point), homes)

    def test_spreads(self):
        block = self.some_block(191)
        for one, other in itertools.product(block.names(), repeat=2):
            four, second = block.grain(one).four, block.grain(other).four
            self.assertEqual(block.spread_of(one, other), table_spread(four, second))

    def test_unknown_names(self):
        block = filled(names="a")
        for call, values, name in ((block.grain, ("x",), "x"), (block.grain, ("",), ""),
                                   (block.spread_of, ("x", "y"), "x"), (block.spread_of, ("a", "y"), "y"),
                                   (block.spread_of, ("x", "a"), "x")):
            self.assertEqual(raised_by(call, *values), ("UnknownName", name))

    def test_share(self):
        block = filled(names="a", halves=FIVE)
        self.assertEqual(block.share(), 5)
        for name, halves, share in (("b", THREE, 15), ("c", STILL, 15), ("d", FIVE, 15), ("e", (4, -2, 0, 0), 75)):
            block.apply(("put", name, halves))
            self.assertEqual(block.share(), share)
        points = itertools.product(range(15), repeat=3)
        self.assertEqual(len([point for point in points if len(block.homes(point)) == 5]), 15 ** 3 // 75)

    def test_new_values_each_time(self):
        block = filled(names="ab")
        block.apply(("mark", (1, 2, 3)))
        before = told_by(block)
        for one in (block.names(), block.grains(), block.marks(), block.homes((0, 0, 0)), block.commands()):
            one.clear()
        self.assertEqual(told_by(block), before)
        self.assertEqual((block.names(), block.homes((0, 0, 0))), (["a", "b"], ["a", "b"]))
        block.grains()["c"] = Grain.plain()
        self.assertEqual(block.names(), ["a", "b"])

    def test_keywords(self):
        block = Block(limit=50)
        block.apply(command=("put", "a", FIVE))
        self.assertEqual(block.grain(name="a"), Grain(Turn.read("2+i")))
        self.assertEqual(block.spread_of(other="a", one="a"), 1)
        self.assertEqual(block.homes(point=(0, 0, 1)), [])
        block.change_limit(limit=60)
        self.assertEqual((block.limit, PlainBlock(limit=7).limit), (60, 7))
        with self.assertRaises(TypeError):
            Block(50)
        with self.assertRaises(TypeError):
            PlainBlock(50)


class Commands(unittest.TestCase):
    def test_any_commands_one_by_one(self):
        tags = set()
        for seed in range(60):
            source = random.Random(1000 + seed)
            plain = source.choice((False, True))
            limit = source.choice((1, 3, 5, 15, 45, 100, 10000))
            block, model = (PlainBlock if plain else Block)(limit=limit), BlockModel(limit, plain)
            for time in range(60):
                command = some_tuple(source)
                told = model.step(command)
                self.assertEqual(raised_by(block.apply, command), told, (seed, command))
                self.assertEqual(told_by(block), model.told(), (seed, command))
                tags.add(told[0] if told else "ok")
        self.assertEqual(sorted(tags), [
            "CapacityExceeded", "DuplicateMark", "DuplicateName", "InvalidCommand", "InvalidFour", "InvalidName",
            "InvalidRing", "TooFar", "UnknownMark", "UnknownName", "ok",
        ])


if __name__ == "__main__":
    unittest.main()
