"""Trials: the answers to commands, while the block stays as it was."""

import random
import unittest

from grainmeet.blocks import Block, PlainBlock
from grainmeet.trials import attempt, first_refused
from samples import BlockModel, raised_by, some_tuple, told_by

STILL, FIVE = (2, 0, 0, 0), (4, 2, 0, 0)


class Trials(unittest.TestCase):
    def test_table(self):
        block = Block(limit=4)
        block.apply(("put", "ann", STILL))
        commands = [
            ("put", "bob", FIVE), ("put", "bob", STILL), ("put", "bob", STILL), (), ("what", 1), ("drop", "x"),
            ("drop", "ann"), ("drop", "ann"), ("put", "Ann", STILL), ("put", "c", (0, 0, 0, 0)), ("unmark", (0, 0, 0)),
            ("mark", (0, 0, 0)), ("mark", (0, 0, 0)), ("lean", "bob", 5, (1, 1, 1)), ("put", "a"), ("swap", "bob", "bob"),
        ]
        self.assertEqual(attempt(block, *commands), [
            "TooFar", "ok", "DuplicateName", "InvalidCommand", "InvalidCommand", "UnknownName", "ok", "UnknownName",
            "InvalidName", "InvalidFour", "UnknownMark", "ok", "DuplicateMark", "InvalidRing", "InvalidCommand", "ok",
        ])
        self.assertEqual(block.commands(), [("put", "ann", STILL)])

    def test_no_commands(self):
        self.assertEqual(attempt(Block()), [])
        self.assertIsNone(first_refused(Block()))

    def test_too_many(self):
        commands = [("mark", (at, 0, 0)) for at in range(13)]
        self.assertEqual(attempt(Block(), *commands), ["ok"] * 12 + ["CapacityExceeded"])
        self.assertEqual(first_refused(Block(), *commands), 12)
        self.assertIsNone(first_refused(Block(), *commands[:12]))

    def test_first_refused(self):
        block = Block(limit=4)
        for commands, at in (
            ([("put", "a", STILL), ("put", "b", STILL)], None), ([("drop", "a")], 0), ([()], 0),
            ([("put", "a", STILL), ("put", "b", FIVE), ("drop", "x")], 1),
            ([("put", "a", STILL), ("drop", "a"), ("drop", "a")], 2), ([("put", "a", FIVE), ("what",)], 1),
        ):
            self.assertEqual(first_refused(block, *commands), at)
            self.assertEqual(told_by(block), told_by(Block(limit=4)))

    def test_plain_blocks(self):
        self.assertEqual(attempt(PlainBlock(limit=4), ("put", "a", FIVE)), ["TooFar"])
        self.assertEqual(attempt(Block(limit=4), ("put", "a", FIVE)), ["ok"])
        self.assertEqual(first_refused(PlainBlock(limit=4), ("put", "a", FIVE)), 0)

    def test_any_commands(self):
        for seed in range(40):
            source = random.Random(3000 + seed)
            plain, limit = source.choice((False, True)), source.choice((3, 5, 15, 100))
            block, model = (PlainBlock if plain else Block)(limit=limit), BlockModel(limit, plain)
            for time in range(15):
                command = some_tuple(source)
                raised_by(block.apply, command), model.step(command)
            for time in range(source.randint(0, 2)):
                raised_by(block.undo), model.undo()
            before = told_by(block)
            commands = [some_tuple(source) for time in range(30)]
            answers = attempt(block, *commands)
            first = first_refused(block, *commands)
            self.assertEqual(told_by(block), before)
            told = [model.step(command) for command in commands]
            self.assertEqual(answers, [one[0] if one else "ok" for one in told])
            self.assertEqual(first, next((at for at, one in enumerate(told) if one), None))
            while block.history()[1]:
                block.redo()

    def test_keyword(self):
        self.assertEqual(attempt(block=Block()), [])
        self.assertIsNone(first_refused(block=Block()))


if __name__ == "__main__":
    unittest.main()
