"""Pages: the texts of commands and of blocks, written and read."""

import random
import re
import unittest

from grainmeet.blocks import Block, PlainBlock
from grainmeet.errors import ParseError
from grainmeet.fours import Four
from grainmeet.pages import command_text, format_block, read_block, read_command
from samples import (
    KINDS, WORDS, BlockModel, changed, is_four, model_text, raised_by, some_command, some_tuple, told_by,
)

TEXTS = {
    "put ann 2+i": ("put", "ann", (4, 2, 0, 0)),
    "put a 1/2-3/2i+1/2j+1/2k": ("put", "a", (1, -3, 1, 1)),
    "put a 0": ("put", "a", (0, 0, 0, 0)),
    "put Not-a-name -k": ("put", "Not-a-name", (0, 0, 0, -2)),
    "put  1": ("put", "", (2, 0, 0, 0)),
    "put put 1": ("put", "put", (2, 0, 0, 0)),
    "put 1 1": ("put", "1", (2, 0, 0, 0)),
    "drop bob": ("drop", "bob"),
    "drop ": ("drop", ""),
    "drop [1+i]": ("drop", "[1+i]"),
    "turn ann 3+i-2j": ("turn", "ann", (6, 2, -4, 0)),
    "turn  i": ("turn", "", (0, 2, 0, 0)),
    "lean ann 5 0 3 4": ("lean", "ann", 5, (0, 3, 4)),
    "lean ann -5 -10 0 100000000000000000000000000000": ("lean", "ann", -5, (-10, 0, 10 ** 29)),
    "lean  0 0 0 0": ("lean", "", 0, (0, 0, 0)),
    "swap a b": ("swap", "a", "b"),
    "swap  ": ("swap", "", ""),
    "swap a ": ("swap", "a", ""),
    "midst m a b c": ("midst", "m", "a", "b", "c"),
    "midst    ": ("midst", "", "", "", ""),
    "mark 0 -1 999999999": ("mark", (0, -1, 999999999)),
    "unmark -10 20 -30": ("unmark", (-10, 20, -30)),
}
REFUSED = (
    "", " ", "put", "put ", "put a", "put a ", "put a 1 ", "put a  1", " put a 1", "put a 1 1", "put 1", "Put a 1",
    "putt a 1", "pu a 1", "PUT a 1", "put a 1i", "put a i+1", "put a +1", "put a 01", "put a -0", "put a 2/2",
    "put a 1/2", "put a 1/2+i", "put a [1]", "put a (2,0,0,0)", "put a 1+", "put a x", "put a 1\n", "put a 0+i",
    "drop", "drop a b", "drop a ", "turn a", "turn a b", "turn a 1 b", "turn a 1i",
    "lean a 3 1 1", "lean a 3 1 1 1 1", "lean a 3 1 1 1 ", "lean a 3  1 1", "lean a 03 1 1 1", "lean a 3 01 1 1",
    "lean a +3 1 1 1", "lean a 3 1 1 +1", "lean a 3 1 -0 1", "lean a 3 1 1 1/2", "lean a x 1 1 1", "lean a  1 1 1",
    "lean a 3 (1, 1, 1)", "lean 3 1 1 1", "lean a 3 1 1 --1", "lean a 3 1 1 -",
    "swap", "swap a", "swap a b c", "midst m a b", "midst m a b c d", "midst", "mark", "mark 0 0", "mark 0 0 0 0",
    "mark 0 0 0 ", "mark 0 0  0", "mark  0 0 0", "mark 0 0 00", "mark 0 0 -0", "mark +0 0 0", "mark 1.0 0 0",
    "mark 1_0 0 0", "mark a 0 0", "mark 0 0 1\n", "mark 0 0 \n1", "mark i 0 0", "mark 0 0 0x1", "mark 1e1 0 0",
    "unmark 0 0", "unmark 0 0 0 0", "unmark 0 0 -", "unmark 0 0 ", "undo", "redo", "names", "block 5", "what", "limit 5",
)


def model_command(text):
    """The command with a text by the words of the document, or None."""
    first, *words = text.split(" ")
    kinds = KINDS.get(first, "").split()
    if not kinds or len(words) != len(kinds):
        return None
    values = []
    for kind, word in zip(kinds, words):
        if kind == "name":
            values.append(word)
        elif kind == "four":
            if raised_by(Four.read, word):
                return None
            values.append(Four.read(word).halves)
        elif re.fullmatch(r"0|-?[1-9][0-9]*", word):
            values.append(int(word))
        else:
            return None
    if first in ("mark", "unmark"):
        values = [tuple(values)]
    if first == "lean":
        values = [*values[:2], tuple(values[2:])]
    return (first, *values)


def model_page(model):
    """The page of a block by the words of the document."""
    first = f"{'plainblock' if model.plain else 'block'} {model.limit}"
    return "".join(line + "\n" for line in [first, *map(model_text, model.commands())])


def model_block(text):
    """The model of the block with a page, or the index of its first wrong line."""
    first, *lines = text.split("\n")
    form = re.fullmatch(r"(plain)?block ([1-9][0-9]*)", first)
    if not form or not lines or not 1 <= int(form[2]) <= 1000000:
        return 0
    model = BlockModel(int(form[2]), form[1] is not None)
    for at, line in enumerate(lines[:-1], start=1):
        command = model_command(line)
        if command is None or model.step(command):
            return at
    return len(lines) if lines[-1] else model


def right_command(source):
    """A command of a valid form whose halves are those of a four."""
    command = some_command(source)
    while command[0] in ("put", "turn") and (len(command[2]) != 4 or not is_four(command[2])):
        command = some_command(source)
    return command


def some_block(source):
    """A block and its model after steps, batches, undos and changes of the limit."""
    plain, limit = source.choice((False, True)), source.choice((5, 15, 100, 10000))
    block, model = (PlainBlock if plain else Block)(limit=limit), BlockModel(limit, plain)
    for time in range(25):
        commands = [some_tuple(source) for one in range(source.choice((1, 1, 1, 2, 3)))]
        raised_by(block.apply_all, *commands), model.step(*commands)
        if source.randint(0, 5) == 0:
            raised_by(block.undo), model.undo()
    if source.randint(0, 2) == 0:
        block.limit = model.limit = max(model.widest(), source.choice((1, 5, 500, 1000000)))
    return block, model


class Commands(unittest.TestCase):
    def test_table(self):
        for text, command in TEXTS.items():
            self.assertEqual(command_text(command), text)
            self.assertEqual(read_command(text), command)
            self.assertEqual(model_command(text), command)

    def check_refused(self, text):
        with self.assertRaises(ParseError, msg=repr(text)) as caught:
            read_command(text)
        self.assertEqual(caught.exception.at, 0)

    def test_refused(self):
        for text in REFUSED:
            self.check_refused(text)

    def test_each_the_inverse_of_the_other(self):
        source = random.Random(401)
        for time in range(1500):
            command = right_command(source)
            if " " not in "".join(value for value in command if isinstance(value, str)):
                self.assertEqual(command_text(command), model_text(command))
                self.assertEqual(read_command(command_text(command)), command)

    def test_changed_texts(self):
        source = random.Random(402)
        counts = {True: 0, False: 0}
        for time in range(6000):
            text = changed(source, model_text(right_command(source)), WORDS)
            command = model_command(text)
            counts[command is None] += 1
            if command is None:
                self.check_refused(text)
            else:
                self.assertEqual(read_command(text), command)
                self.assertEqual(command_text(command), text)
        self.assertGreater(min(counts.values()), 500)

    def test_kinds_of_values(self):
        for text in TEXTS:
            command = read_command(text)
            self.assertIs(type(command), tuple)
            self.assertTrue(all(type(value) in (str, int, tuple) for value in command))

    def test_integers_of_any_length(self):
        for number in (10 ** 64, -10 ** 64, 10 ** 5000, 1 - 10 ** 5000):
            command = ("mark", (number, 0, -number))
            self.assertEqual(read_command(command_text(command)), command)
        self.assertEqual(command_text(("mark", (-10 ** 5000, 0, 0))), "mark -1" + "0" * 5000 + " 0 0")

    def test_keywords(self):
        self.assertEqual(command_text(command=("drop", "a")), "drop a")
        self.assertEqual(read_command(text="drop a"), ("drop", "a"))


class Written(unittest.TestCase):
    def test_the_empty_block(self):
        self.assertEqual(format_block(Block()), "block 10000\n")
        self.assertEqual(format_block(PlainBlock(limit=7)), "plainblock 7\n")

    def test_commands_in_order(self):
        block = PlainBlock(limit=100)
        block.apply(("put", "ann", (4, 2, 0, 0)))
        block.apply_all(("put", "bob", (3, 1, 1, 1)), ("mark", (0, -3, 4)))
        block.apply_all()
        block.apply(("lean", "bob", 1, (7, -8, 0)))
        block.apply(("swap", "ann", "ann"))
        block.apply(("drop", "bob"))
        block.undo()
        self.assertEqual(format_block(block), (
            "plainblock 100\nput ann 2+i\nput bob 3/2+1/2i+1/2j+1/2k\nmark 0 -3 4\nlean bob 1 7 -8 0\nswap ann ann\n"
        ))

    def test_commands_that_failed_or_were_undone_are_not_there(self):
        block = Block()
        raised_by(block.apply, ("drop", "x"))
        raised_by(block.apply_all, ("mark", (1, 1, 1)), ("drop", "x"))
        block.apply(("mark", (2, 2, 2)))
        block.undo()
        self.assertEqual(format_block(block), "block 10000\n")
        block.redo()
        self.assertEqual(format_block(block), "block 10000\nmark 2 2 2\n")

    def test_the_limit_of_now(self):
        block = Block(limit=50)
        block.apply(("mark", (0, 0, 0)))
        block.limit = 9
        block.undo()
        self.assertEqual(format_block(block), "block 9\n")

    def test_a_class_below(self):
        class Own(PlainBlock):
            pass
        self.assertEqual(format_block(Own(limit=3)), "plainblock 3\n")

    def test_the_block_stays(self):
        for seed in range(20):
            block, model = some_block(random.Random(410 + seed))
            before = told_by(block)
            format_block(block)
            self.assertEqual(told_by(block), before)

    def test_keyword(self):
        self.assertEqual(format_block(block=Block(limit=3)), "block 3\n")


class Read(unittest.TestCase):
    def check(self, text):
        """Reads a page as the document says; returns whether it is one."""
        told = model_block(text)
        if isinstance(told, int):
            with self.assertRaises(ParseError, msg=text) as caught:
                read_block(text)
            self.assertEqual(caught.exception.at, told, text)
            return False
        block = read_block(text)
        self.assertEqual(told_by(block), told.told())
        self.assertIs(type(block), PlainBlock if told.plain else Block)
        self.assertEqual(format_block(block), text)
        return True

    def test_first_lines(self):
        for text in ("block 1\n", "block 10000\n", "block 1000000\n", "plainblock 1\n", "plainblock 1000000\n"):
            self.assertTrue(self.check(text))
        for text in (
            "", "\n", "\n\n", " ", "block 5", "plainblock 5", "block\n", "block \n", "block  5\n", " block 5\n", "block 5 \n",
            "block 5 5\n", "block 0\n", "block 1000001\n", "block -1\n", "block 05\n", "block +5\n", "block -0\n",
            "block x\n", "block 5.\n", "Block 5\n", "plain block 5\n", "plainblock 0\n", "plainblock 1000001\n",
            "plainblock\n", "plain 5\n", "5\n", "\nblock 5\n", "put a 1\n", "block 5 \nput a 1\n", "block 0\nwhat\n",
            "block " + "9" * 1500 + "\n", "block 5\tx\n", "block\n5\n", "block 0\nput a 1",
        ):
            self.assertEqual(raised_by(read_block, text), ("ParseError", 0), text)
            self.assertFalse(self.check(text))

    def test_first_wrong_line(self):
        for text, at in (
            ("block 5\n\n", 1), ("block 5\nput a 1", 1), ("block 5\nput a 1\n\n", 2), ("block 5\nput a 1\n ", 2),
            ("block 5\nput a 1\nput a 1\n", 2), ("block 5\nput a 1\nput b 2+i\nput c 1+i+j\n", 3),
            ("block 4\nput a 1\nput b 2+i\nwhat\n", 2), ("block 5\nput a 1\nwhat\nput a 1\n", 2), ("block 5\nwhat", 1),
            ("plainblock 4\nput a 2+i\n", 1), ("block 5\nput A 1\n", 1), ("block 5\nput a 0\n", 1), ("block 5\ndrop a\n", 1),
            ("block 5\nput a 1\nlean a 4 0 0 0\n", 2), ("block 5\nmark 0 0 0\nmark 0 0 0\n", 2), ("block 5\nunmark 0 0 0\n", 1),
            ("block 5\nput  1\n", 1), ("block 5\nput a 1\nblock 5\n", 2), ("block 5\nundo\n", 1), ("block 5\nput a 1 \n", 1),
            ("block 5\nput a 1\ndrop a\nturn a 1\n", 3), ("block 5\nput a 1\n drop a\n", 2), ("block 5\ndrop x\nput a", 1),
            ("block 5\n" + "".join(f"mark {x} 0 0\n" for x in range(13)), 13),
            ("block 5\n" + "".join(f"put {x} 1\n" for x in "abcdefghi"), 9),
        ):
            self.assertEqual(raised_by(read_block, text), ("ParseError", at), text)
            self.assertFalse(self.check(text))
        self.assertTrue(self.check("block 4\nput a 2+i\n"))

    def test_only_line_feeds_separate_lines(self):
        for sign in ("\r", "\x0b", "\x0c", "\x1c", "\x85", "\u2028"):
            self.assertEqual(raised_by(read_block, f"block 5\nmark 1 2 3{sign}mark 1 2 4\n"), ("ParseError", 1))

    def test_pages_of_any_blocks(self):
        for seed in range(60):
            block, model = some_block(random.Random(430 + seed))
            text = format_block(block)
            self.assertEqual(text, model_page(model))
            if not self.check(text):
                # Only a lowered limit makes the page of a block wrong.
                block.limit = 1000000
                text = format_block(block)
                self.assertTrue(self.check(text))
            again = read_block(text)
            told, before = told_by(again), told_by(block)
            self.assertEqual(told.pop("history"), (len(block.commands()), 0))
            before.pop("history")
            self.assertEqual(told, before)

    def test_the_block_goes_on(self):
        for seed in range(30):
            source = random.Random(500 + seed)
            block, model = some_block(source)
            block.limit = 1000000
            again = read_block(format_block(block))
            for time in range(20):
                command = some_tuple(source)
                self.assertEqual(raised_by(again.apply, command), raised_by(block.apply, command))
                told, other = told_by(again), told_by(block)
                told.pop("history"), other.pop("history")
                self.assertEqual(told, other)

    def test_each_command_is_a_step(self):
        block = Block()
        block.apply_all(("put", "a", (2, 0, 0, 0)), ("mark", (1, 2, 3)), ("drop", "a"))
        block.apply_all()
        again = read_block(format_block(block))
        self.assertEqual((block.history(), again.history()), ((2, 0), (3, 0)))
        again.undo()
        self.assertEqual(again.names(), ["a"])

    def test_a_lowered_limit(self):
        block = Block()
        for command in (("put", "a", (2, 0, 0, 0)), ("put", "b", (4, 2, 0, 0)), ("drop", "b")):
            block.apply(command)
        block.limit = 4
        self.assertEqual(raised_by(read_block, format_block(block)), ("ParseError", 2))
        block.limit = 5
        self.assertEqual(told_by(read_block(format_block(block))), told_by(block))

    def test_changed_pages(self):
        counts = {True: 0, False: 0}
        for seed in range(40):
            source = random.Random(550 + seed)
            block, model = some_block(source)
            text = model_page(model)
            for time in range(25):
                counts[self.check(self.changed_page(source, text))] += 1
        self.assertGreater(min(counts.values()), 100)

    def changed_page(self, source, text):
        lines = text.split("\n")[:-1]
        at = source.randrange(len(lines))
        kind = source.choice(("remove", "repeat", "move", "change", "cut", "empty", "insert"))
        if kind == "remove":
            del lines[at]
        elif kind == "repeat":
            lines.insert(source.randint(at, len(lines)), lines[at])
        elif kind == "move":
            lines.insert(source.randrange(len(lines)), lines.pop(at))
        elif kind == "change":
            lines[at] = changed(source, lines[at], WORDS)
        elif kind == "cut":
            return text[:source.randint(0, len(text))]
        elif kind == "empty":
            lines.insert(at, "")
        else:
            lines.insert(at + 1, model_text(right_command(source)))
        return "".join(line + "\n" for line in lines)

    def test_new_blocks_each_time(self):
        one, other = read_block("block 5\nput a 1\n"), read_block("block 5\nput a 1\n")
        one.apply(("drop", "a"))
        self.assertEqual(other.names(), ["a"])

    def test_keyword(self):
        self.assertEqual(read_block(text="block 5\n").limit, 5)


if __name__ == "__main__":
    unittest.main()
