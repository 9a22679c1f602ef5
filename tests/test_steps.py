"""The steps of a block: batches, undo and redo, the limit, twins and plain blocks."""

import random
import unittest

from grainmeet.blocks import Block, PlainBlock
from grainmeet.errors import InvalidCommand, InvalidLimit, NothingLeft, TooFar, UnknownName
from grainmeet.grains import Grain
from grainmeet.turns import Turn
from samples import BlockModel, raised_by, some_tuple, told_by

STILL, FIVE, THREE = (2, 0, 0, 0), (4, 2, 0, 0), (2, 2, 2, 0)
PUT_A, PUT_B, PUT_C = ("put", "a", STILL), ("put", "b", FIVE), ("put", "c", THREE)
MARK = ("mark", (1, 2, 3))


class Spy(str):
    """A name that notes whether a block is busy each time it is looked up."""

    def __new__(cls, name, block, seen):
        made = str.__new__(cls, name)
        made.block, made.seen = block, seen
        return made

    def __eq__(self, other):
        return str.__eq__(self, other)

    def __hash__(self):
        self.seen.append(self.block.busy)
        return str.__hash__(self)


def built(*commands, limit=10000, plain=False):
    """A block with some commands applied one by one."""
    block = (PlainBlock if plain else Block)(limit=limit)
    for command in commands:
        block.apply(command)
    return block


class Batches(unittest.TestCase):
    def test_one_step(self):
        block = Block()
        self.assertIsNone(block.apply_all(PUT_A, PUT_B, MARK))
        self.assertEqual((block.names(), block.marks(), block.history()), (["a", "b"], [(1, 2, 3)], (1, 0)))
        self.assertEqual(block.commands(), [PUT_A, PUT_B, MARK])
        block.undo()
        self.assertEqual((block.names(), block.marks(), block.history()), ([], [], (0, 1)))
        self.assertEqual(block.commands(), [])
        block.redo()
        self.assertEqual(block.commands(), [PUT_A, PUT_B, MARK])

    def test_later_commands_see_the_earlier_ones(self):
        block = Block()
        block.apply_all(PUT_A, ("turn", "a", FIVE), ("put", "b", STILL), ("swap", "a", "b"), ("drop", "a"))
        self.assertEqual(block.grains(), {"b": Grain(Turn.read("2+i"))})

    def test_the_empty_batch(self):
        block = built(PUT_A)
        block.undo()
        self.assertIsNone(block.apply_all())
        self.assertEqual((block.history(), block.commands(), block.names()), ((1, 0), [], []))
        block.undo()
        block.redo()
        self.assertEqual(block.history(), (1, 0))

    def test_all_or_none(self):
        block = built(PUT_A, MARK, PUT_B, limit=14)
        block.undo()
        before = told_by(block)
        for commands, told in (
            ([PUT_B, ("drop", "x")], ("UnknownName", "x")), ([PUT_B, PUT_C], ("TooFar", 14)),
            ([("drop", "a"), ("unmark", (1, 2, 3)), MARK, MARK], ("DuplicateMark", (1, 2, 3))),
            ([PUT_B, ("turn", "b", (0, 0, 0, 0)), ("drop", "x")], ("InvalidFour", (0, 0, 0, 0))),
            ([PUT_B, PUT_C, ("drop", "b")], ("TooFar", 14)),
        ):
            self.assertEqual(raised_by(block.apply_all, *commands), told)
            self.assertEqual(told_by(block), before)
        block.redo()

    def test_forms_are_checked_first(self):
        block = built(PUT_A)
        before = told_by(block)
        for commands, first in (
            ([("drop", "x"), ("what",)], "what"), ([PUT_A, ()], None), ([PUT_B, ("put", "c"), ()], "put"),
            ([(), ("what",)], None), ([("drop", "a", "b"), ("drop", "x")], "drop"),
        ):
            with self.assertRaises(InvalidCommand) as caught:
                block.apply_all(*commands)
            self.assertEqual(caught.exception.first, first)
            self.assertEqual(told_by(block), before)

    def test_busy_while_a_batch_is_applied(self):
        block, seen = built(PUT_A), []
        self.assertIs(block.busy, False)
        block.apply_all(("swap", "a", Spy("a", block, seen)))
        self.assertIn(True, seen)
        self.assertNotIn(False, seen)
        self.assertIs(block.busy, False)

    def test_not_busy_in_single_commands(self):
        block, seen = built(PUT_A), []
        block.apply(("swap", "a", Spy("a", block, seen)))
        self.assertIn(False, seen)
        self.assertNotIn(True, seen)

    def test_not_busy_after_errors(self):
        block, seen = built(PUT_A, limit=4), []
        for commands in ([("drop", Spy("x", block, seen))], [PUT_B], [()], [PUT_C, ("what",)], [PUT_A],
                         [("lean", "a", 4, (0, 0, 0))], [("put", "b", (0, 0, 0, 0))], [("unmark", (0, 0, 0))]):
            self.assertIsNotNone(raised_by(block.apply_all, *commands))
            self.assertIs(block.busy, False)
        self.assertNotIn(False, seen)
        self.assertEqual(raised_by(block.apply, PUT_A), ("DuplicateName", "a"))
        self.assertIs(block.busy, False)

    def test_busy_cannot_be_assigned(self):
        with self.assertRaises(AttributeError):
            Block().busy = True

    def test_arguments_stay(self):
        commands = [PUT_A, PUT_B]
        block = Block()
        block.apply_all(*commands)
        block.commands().clear()
        self.assertEqual((commands, block.commands()), ([PUT_A, PUT_B], [PUT_A, PUT_B]))


class UndoRedo(unittest.TestCase):
    def test_nothing_left(self):
        block = Block()
        for call in (block.undo, block.redo):
            with self.assertRaises(NothingLeft):
                call()
        block.apply(PUT_A)
        with self.assertRaises(NothingLeft):
            block.redo()
        block.undo()
        with self.assertRaises(NothingLeft):
            block.undo()
        self.assertEqual(block.history(), (0, 1))

    def test_there_and_back(self):
        block = built(PUT_A, PUT_B, MARK, ("turn", "a", THREE), ("unmark", (1, 2, 3)), ("drop", "b"))
        states = [told_by(block)]
        while block.history()[0]:
            self.assertIsNone(block.undo())
            states.append(told_by(block))
        self.assertEqual(told_by(block)["fours"], [])
        for told in states[-2::-1]:
            self.assertIsNone(block.redo())
            self.assertEqual(told_by(block), told)

    def test_a_new_step_ends_what_can_be_redone(self):
        for step in (lambda block: block.apply(PUT_C), lambda block: block.apply_all()):
            block = built(PUT_A, PUT_B, MARK)
            block.undo()
            block.undo()
            self.assertEqual(block.history(), (1, 2))
            step(block)
            self.assertEqual(block.history(), (2, 0))
            with self.assertRaises(NothingLeft):
                block.redo()

    def test_a_failing_step_ends_nothing(self):
        block = built(PUT_A, PUT_B, limit=5)
        block.undo()
        for command in (("drop", "x"), (), PUT_A, ("put", "x", (6, 4, 0, 0))):
            self.assertIsNotNone(raised_by(block.apply, command))
            self.assertIsNotNone(raised_by(block.apply_all, MARK, command))
        self.assertEqual(block.history(), (1, 1))
        block.redo()
        self.assertEqual(block.names(), ["a", "b"])

    def test_queries_change_nothing(self):
        block = built(PUT_A, PUT_B)
        block.undo()
        before = told_by(block)
        for time in range(2):
            block.homes((0, 0, 0)), block.spread_of("a", "a"), block.grain("a"), block.share(), block.names()
            self.assertEqual(told_by(block), before)
        block.redo()

    def test_any_steps(self):
        for seed in range(60):
            source = random.Random(2000 + seed)
            plain = source.choice((False, True))
            limit = source.choice((3, 5, 15, 45, 100, 10000))
            block, model = (PlainBlock if plain else Block)(limit=limit), BlockModel(limit, plain)
            for time in range(50):
                self.one_step(source, block, model)
                self.assertEqual(told_by(block), model.told())

    def one_step(self, source, block, model):
        kind = source.choice(("apply", "apply", "apply", "batch", "undo", "redo", "limit"))
        if kind == "apply":
            command = some_tuple(source)
            self.assertEqual(raised_by(block.apply, command), model.step(command))
        elif kind == "batch":
            commands = [some_tuple(source) for time in range(source.randint(0, 3))]
            self.assertEqual(raised_by(block.apply_all, *commands), model.step(*commands))
        elif kind == "undo":
            self.assertEqual(raised_by(block.undo), model.undo())
        elif kind == "redo":
            self.assertEqual(raised_by(block.redo), model.redo())
        else:
            limit = source.choice((0, 1, 3, 5, 15, 45, 100, 10000, 1000000, 1000001))
            fits = model.widest() <= limit <= 1000000
            self.assertEqual(raised_by(block.change_limit, limit), None if fits else ("InvalidLimit", limit))
            model.limit = limit if fits else model.limit


class Limits(unittest.TestCase):
    def assign(self, block, limit):
        block.limit = limit

    def check_refused(self, block, limit):
        before = told_by(block)
        for change in (self.assign, lambda block, limit: block.change_limit(limit)):
            with self.assertRaises(InvalidLimit) as caught:
                change(block, limit)
            self.assertEqual(caught.exception.given, limit)
            self.assertEqual(told_by(block), before)

    def test_new_blocks(self):
        for kind in (Block, PlainBlock):
            self.assertEqual(kind().limit, 10000)
            for limit in (1, 2, 9999, 1000000):
                self.assertEqual(kind(limit=limit).limit, limit)
            for limit in (0, -1, 1000001, 10 ** 29, -10 ** 29):
                with self.assertRaises(InvalidLimit) as caught:
                    kind(limit=limit)
                self.assertEqual(caught.exception.given, limit)

    def test_bounds(self):
        block = built(PUT_A, PUT_B, PUT_C)
        self.assertEqual(block.widest(), 15)
        for limit in (14, 1, 0, -1, -15, 1000001, 10 ** 29):
            self.check_refused(block, limit)
        for limit in (15, 16, 1000000):
            block.limit = limit
            self.assertEqual(block.limit, limit)
            self.assertIsNone(block.change_limit(limit - 1 if limit > 15 else 15))
        self.check_refused(Block(), 0)

    def test_the_limit_is_no_step(self):
        block = built(PUT_A)
        block.undo()
        block.limit = 7
        self.assertEqual((block.history(), block.limit), ((0, 1), 7))
        block.redo()
        block.undo()
        self.assertEqual(block.limit, 7)

    def test_undo_and_redo_do_not_check_it(self):
        block = built(PUT_A, PUT_B, ("drop", "b"))
        block.limit = 1
        block.undo()
        self.assertEqual((block.widest(), block.limit), (5, 1))
        self.check_refused(block, 1)
        self.check_refused(block, 4)
        block.undo()
        block.redo()
        self.assertEqual(block.names(), ["a", "b"])
        with self.assertRaises(TooFar) as caught:
            block.apply(("put", "c", STILL))
        self.assertEqual(caught.exception.most, 1)
        block.apply(("drop", "a"))
        block.limit = 1

    def test_the_limit_of_now_counts(self):
        block = built(PUT_A, limit=4)
        self.assertEqual(raised_by(block.apply, PUT_B), ("TooFar", 4))
        block.limit = 5
        block.apply(PUT_B)
        self.assertEqual(raised_by(block.apply, PUT_C), ("TooFar", 5))
        self.check_refused(block, 4)


class Twins(unittest.TestCase):
    def test_all_is_the_same(self):
        for kind in (Block, PlainBlock):
            block = kind(limit=50)
            block.apply_all(PUT_A, PUT_B)
            block.apply(MARK)
            block.apply(("drop", "a"))
            block.undo()
            twin = block.twin()
            self.assertIs(type(twin), kind)
            self.assertEqual(told_by(twin), told_by(block))
            self.assertEqual(twin.history(), (2, 1))
            twin.redo()
            self.assertEqual(twin.names(), ["b"])
            twin.undo()
            twin.undo()
            twin.undo()
            self.assertEqual(twin.names(), [])
            self.assertEqual((block.names(), block.history()), (["a", "b"], (2, 1)))

    def test_independent_afterwards(self):
        block = built(PUT_A, MARK, limit=50)
        twin = block.twin()
        before = told_by(block)
        twin.apply(PUT_B)
        twin.apply_all(("drop", "a"), ("unmark", (1, 2, 3)))
        twin.limit = 5
        self.assertEqual(told_by(block), before)
        after = told_by(twin)
        block.undo()
        block.apply(PUT_C)
        block.limit = 1000
        self.assertEqual(told_by(twin), after)

    def test_undone_steps_are_independent(self):
        block = built(PUT_A, PUT_B)
        block.undo()
        twin = block.twin()
        block.apply(PUT_C)
        twin.redo()
        self.assertEqual((twin.names(), block.names()), (["a", "b"], ["a", "c"]))
        other = twin.twin()
        other.undo()
        other.undo()
        other.apply(MARK)
        twin.undo()
        twin.redo()
        self.assertEqual((twin.names(), twin.marks()), (["a", "b"], []))

    def test_of_a_block_beyond_its_limit(self):
        block = built(PUT_A, PUT_B, ("drop", "b"))
        block.limit = 1
        block.undo()
        self.assertEqual(told_by(block.twin()), told_by(block))

    def test_not_busy(self):
        block = built(PUT_A)
        self.assertIs(block.twin().busy, False)

    def test_class_below(self):
        class Own(PlainBlock):
            pass
        self.assertIs(type(Own(limit=3).twin()), Own)


class PlainBlocks(unittest.TestCase):
    def test_the_whole_grid_counts(self):
        block = built(plain=True, limit=4)
        for command in (PUT_B, ("put", "b", (6, 4, 0, 0))):
            self.assertEqual(raised_by(block.apply, command), ("TooFar", 4))
        block.apply(PUT_C)
        for command in (("turn", "c", FIVE), ("lean", "c", 5, (0, 3, 4))):
            self.assertEqual(raised_by(block.apply, command), ("TooFar", 4))
        self.assertEqual((block.widest(), len(block), block.names()), (3, 1, ["c"]))
        self.assertIsNone(raised_by(built(limit=4).apply, PUT_B))

    def test_widest_and_limit(self):
        plain, other = built(PUT_B, plain=True), built(PUT_B)
        self.assertEqual((plain.widest(), other.widest()), (5, 1))
        self.assertEqual(raised_by(plain.change_limit, 4), ("InvalidLimit", 4))
        self.assertIsNone(other.change_limit(4))
        plain.limit = 5
        plain.apply(("put", "c", FIVE))
        self.assertEqual(plain.widest(), 5)

    def test_midst_too_far(self):
        plain = built(("put", "a", FIVE), ("put", "b", FIVE), ("drop", "b"), ("turn", "a", (4, -2, 0, 0)), plain=True)
        plain.limit = 1
        plain.undo()
        plain.undo()
        self.assertEqual(raised_by(plain.apply, ("midst", "m", "a", "b", "a")), ("TooFar", 1))

    def test_else_as_a_block(self):
        plain = built(PUT_A, PUT_B, MARK, plain=True)
        self.assertEqual({**told_by(plain)}, told_by(built(PUT_A, PUT_B, MARK)))
        self.assertEqual(plain.share(), 5)
        self.assertEqual(plain.homes((0, 3, 4)), ["a", "b"])
        self.assertEqual(raised_by(plain.grain, "x"), ("UnknownName", "x"))
        with self.assertRaises(UnknownName):
            plain.apply(("drop", "x"))


if __name__ == "__main__":
    unittest.main()
