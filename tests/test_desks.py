"""Desks: each line with its answer, and the block behind it."""

import random
import re
import unittest

from grainmeet.blocks import Block, PlainBlock
from grainmeet.conditions import fraction, read_condition, witness
from grainmeet.desks import Desk
from grainmeet.fours import Four
from grainmeet.grains import Grain
from grainmeet.grids import shared
from grainmeet.products import evaluate, read_product
from grainmeet.turns import Turn
from grainmeet.ways import way
from samples import (
    BLOCK_NAMES, KINDS, POINTS, WORDS, BlockModel, belongs, carried, changed, model_text, raised_by, some_command,
    table_spread, told_by,
)

QUESTION_KINDS = {
    "undo": "", "redo": "", "names": "", "widest": "", "share": "", "limit": "", "four": "name",
    "spread": "name name", "way": "name name", "homes": "int int int", "point": "name int int int",
}
LINE_KINDS = {**KINDS, **QUESTION_KINDS}
TEXT_WORDS = ("product", "fraction", "compare")
READY = ("put ann 2+i", "put bob 1+i+j", "put cat 1", "mark 0 3 4")


class Failed(Exception):
    """What a line should be answered with instead."""


def succeeded(call, *values):
    """What a call returns; its error becomes the answer of the desk."""
    told = raised_by(call, *values)
    if told:
        raise Failed("error " + told[0])
    return call(*values)


class DeskModel:
    """A desk by the words of the document, over the model of a block."""

    def __init__(self, model):
        self.model = model

    def answer(self, line):
        try:
            return self.answer_or_fail(line)
        except Failed as failed:
            return str(failed)

    def answer_or_fail(self, line):
        form = re.fullmatch(r"(product|fraction|compare) (.*)", line)
        if form:
            return getattr(self, "text_" + form[1])(form[2])
        first, *words = line.split(" ")
        if first not in LINE_KINDS or "" in words or len(words) != len(LINE_KINDS[first].split()):
            return "what"
        values = [self.parsed(kind, word) for kind, word in zip(LINE_KINDS[first].split(), words)]
        if first in QUESTION_KINDS:
            return getattr(self, "do_" + first)(*values)
        return self.ok(self.model.step(self.command(first, values)))

    def parsed(self, kind, word):
        if kind == "name":
            return word
        if kind == "four":
            return succeeded(Four.read, word).halves
        if not re.fullmatch(r"0|-?[1-9][0-9]*", word):
            raise Failed("error ParseError")
        return int(word)

    def command(self, first, values):
        if first == "lean":
            return (first, *values[:2], tuple(values[2:]))
        return (first, tuple(values)) if first in ("mark", "unmark") else (first, *values)

    def ok(self, told):
        return "error " + told[0] if told else "ok"

    def named(self, *names):
        for name in names:
            if name not in self.model.fours:
                raise Failed("error UnknownName")
        return [self.model.fours[name] for name in names]

    def grains(self):
        return {name: Grain(Turn(four)) for name, four in self.model.fours.items()}

    def do_undo(self):
        return self.ok(self.model.undo())

    def do_redo(self):
        return self.ok(self.model.redo())

    def do_names(self):
        return " ".join(sorted(self.model.fours)) or "none"

    def do_widest(self):
        return str(self.model.widest())

    def do_share(self):
        return str(shared(*self.grains().values()).one_in)

    def do_limit(self):
        return str(self.model.limit)

    def do_four(self, name):
        return self.named(name)[0].text()

    def do_spread(self, one, other):
        return str(table_spread(*self.named(one, other)))

    def do_way(self, one, other):
        return ", ".join(grain.four.text() for grain in way(*[Grain(Turn(four)) for four in self.named(one, other)]))

    def do_homes(self, *point):
        names = [name for name in sorted(self.model.fours) if belongs(self.model.fours[name], point)]
        return " ".join(names) or "none"

    def do_point(self, name, *point):
        place = carried(self.named(name)[0].mirrored(), point)
        return " ".join(map(str, place)) if all(part.denominator == 1 for part in place) else "none"

    def text_product(self, text):
        turns = {name: Turn(four) for name, four in self.model.fours.items()}
        return succeeded(evaluate, succeeded(read_product, text), turns).four.text()

    def text_fraction(self, text):
        return "/".join(map(str, succeeded(fraction, succeeded(read_condition, text), self.grains())))

    def text_compare(self, text):
        texts = text.split(" / ", 1)
        if len(texts) == 1:
            return "error ParseError"
        one, other = [succeeded(read_condition, one) for one in texts]
        point = succeeded(witness, one, other, self.grains())
        return "same" if point is None else " ".join(map(str, point))


def ready(*lines, block=None):
    """A desk with some lines asked, which must all be `ok`."""
    desk = Desk() if block is None else Desk(block=block)
    for line in lines:
        assert desk.ask(line) == "ok", line
    return desk


class Lines(unittest.TestCase):
    def check(self, desk, *pairs):
        for line, answer in pairs:
            self.assertEqual(desk.ask(line), answer, line)

    def test_commands(self):
        self.check(
            Desk(), ("put ann 2+i", "ok"), ("put bob 1", "ok"), ("turn bob 1+i+j", "ok"), ("lean bob 3 1 1 1", "ok"),
            ("swap ann bob", "ok"), ("midst mid ann bob ann", "ok"), ("mark 1 -2 3", "ok"), ("unmark 1 -2 3", "ok"),
            ("drop mid", "ok"), ("four bob", "2+i"), ("undo", "ok"), ("names", "ann bob mid"), ("redo", "ok"),
            ("names", "ann bob"),
        )

    def test_errors(self):
        marks = [(f"mark {x} 0 0", "ok") for x in range(11)] + [("mark 11 0 0", "error CapacityExceeded")]
        self.check(
            ready(*READY, block=Block(limit=15)), ("undo", "ok"), ("undo", "ok"), ("undo", "ok"), ("undo", "ok"),
            ("undo", "error NothingLeft"), ("redo", "ok"), ("redo", "ok"), ("redo", "ok"), ("redo", "ok"),
            ("redo", "error NothingLeft"), ("put Ann 1", "error InvalidName"), ("put ann 1", "error DuplicateName"),
            ("put d 0", "error InvalidFour"), ("put d 4+i", "error TooFar"), ("drop x", "error UnknownName"),
            ("turn x 1", "error UnknownName"), ("turn ann 0", "error InvalidFour"), ("turn ann 4+i", "error TooFar"),
            ("lean x 3 1 1 1", "error UnknownName"), ("lean ann 4 1 1 1", "error InvalidRing"),
            ("lean ann 17 0 1 4", "error TooFar"), ("swap ann x", "error UnknownName"),
            ("midst ann x x x", "error DuplicateName"), ("midst d ann bob x", "error UnknownName"),
            ("mark 0 3 4", "error DuplicateMark"), ("unmark 1 1 1", "error UnknownMark"), ("four x", "error UnknownName"),
            ("spread ann x", "error UnknownName"), ("way x ann", "error UnknownName"), ("point x 0 0 0", "error UnknownName"),
            ("product x", "error UnknownName"), ("fraction x", "error UnknownName"), ("compare ann / x", "error UnknownName"),
            ("names", "ann bob cat"), *marks,
        )

    def test_questions(self):
        self.check(
            ready(*READY), ("names", "ann bob cat"), ("widest", "15"), ("share", "15"), ("limit", "10000"),
            ("four ann", "2+i"), ("four bob", "3/2+1/2i-1/2j+1/2k"), ("four cat", "1"), ("spread ann bob", "15"),
            ("spread bob cat", "3"), ("spread ann ann", "1"), ("way ann ann", "2+i"), ("way cat ann", "1, 2+i"),
            ("homes 0 3 4", "ann cat"), ("homes 0 0 0", "ann bob cat"), ("homes 0 -1 0", "cat"),
            ("point ann 0 3 4", "0 5 0"), ("point ann 0 -3 -4", "0 -5 0"), ("point ann 0 1 0", "none"),
            ("point cat 1 -2 3", "1 -2 3"), ("product ann", "2+i"), ("product ann * ann '", "1"),
            ("product [-2i] * cat", "i"), ("fraction ann", "1/5"), ("fraction ann and bob", "1/15"),
            ("fraction ann or not ann", "1/1"), ("fraction ann and not cat", "0/1"),
            ("fraction not ( ann and bob )", "14/15"), ("compare ann / ann and cat", "same"),
            ("compare ann / cat", "-1 -1 -1"), ("compare ann / ann and bob", "-1 0 0"),
        )

    def test_a_way_with_ascending_primes(self):
        desk = ready("put cat 1", "put far 1", "turn far 1+i+j", "turn far 2+i", "lean far 3 1 1 1")
        grains = way(desk.block().grain("cat"), desk.block().grain("far"))
        self.assertEqual(desk.ask("way cat far"), ", ".join(grain.four.text() for grain in grains))
        self.assertEqual([grain.spread for grain in grains], [1, 3, 9, 45])

    def test_the_empty_block(self):
        self.check(
            Desk(), ("names", "none"), ("widest", "1"), ("share", "1"), ("limit", "10000"), ("homes 0 0 0", "none"),
            ("undo", "error NothingLeft"), ("redo", "error NothingLeft"), ("product [1+2i]", "1+2i"),
        )

    def test_no_line(self):
        desk = ready(*READY)
        before = told_by(desk.block())
        for line in (
            "", " ", "  ", "what", "Names", "names ", " names", "names names", "names 1", "undo ", " undo", "undo 1",
            "redo redo", "widest 1", "share ", "limit 5", "limit ", "put", "put ", "put d", "put d ", "put  1", "put d  1",
            "put d 1 ", " put d 1", "put d 1 1", "drop", "drop ", "drop ann ", "drop  ann", "drop ann bob", "turn ann",
            "turn ann 1 1", "turn  1", "lean ann 3 1 1", "lean ann 3 1 1 1 1", "lean ann 3 1  1", "lean ann  3 1 1 1",
            "lean ann 3 1 1 1 ", "swap ann", "swap ann ", "swap  ", "swap ann bob cat", "midst d ann bob",
            "midst d ann bob ", "midst d ann bob cat cat", "mark 1 1", "mark 1 1 ", "mark 1  1", "mark 1 1 1 1", "mark",
            "mark  1 1 1", "unmark 0 3", "unmark 0 3 4 ", "four", "four ", "four ann bob", "four  ann", "spread ann",
            "spread ann ", "spread ann bob cat", "way ann", "way", "way ann bob ", "homes", "homes 0 0", "homes 0 0 ",
            "homes 0 0 0 0", "point ann 0 0", "point ann 0 0 0 0", "point ann", "point  0 0 0", "point 0 0 0", "product",
            "fraction", "compare", " product ann", "products ann", "block 5", "busy", "history", "commands", "table",
            "mark x y", "mark x y z w", "put x y z", "homes x", "PUT d 1", "put-d 1", "product\tann", " compare a / b",
        ):
            self.assertEqual(desk.ask(line), "what", repr(line))
            self.assertEqual(told_by(desk.block()), before)

    def test_words_that_cannot_be_parsed(self):
        desk = ready(*READY)
        before = told_by(desk.block())
        for line in (
            "put d x", "put d 1i", "put d +1", "put d 01", "put ann x", "put A x", "turn x 1/2", "turn ann i+1",
            "lean x y 1 1 1", "lean ann 03 1 1 1", "lean ann 3 1 1 x", "lean ann 4 1 1 +1", "lean ann 3 -0 1 1",
            "mark 0 3 04", "mark x 3 4", "mark 0 3 4.", "unmark 9 9 x", "unmark -0 3 4", "homes x 0 0", "homes 0 0 00",
            "point x y 0 0", "point ann 0 0 1/2", "point ann +1 0 0", "mark 0 3 --4", "mark 1e1 0 0", "mark 1_0 0 0",
            "product ", "product  ", "product x *", "product ann ", "product  ann", "product ann  * bob", "product [0]",
            "product [x]", "product x y", "fraction ", "fraction  ", "fraction ann ", "fraction x and", "fraction  ann",
            "fraction ( x", "compare ", "compare  ", "compare ann", "compare x", "compare ann bob", "compare ann /",
            "compare ann / ", "compare  / ann", "compare  / ", "compare ann  / bob", "compare ann /  bob", "compare /",
            "compare ann/bob", "compare ann /bob", "compare ann / bob / cat", "compare x / and", "compare and / x",
            "compare ann / bob ", "compare ann / bob /",
            "product " + " * ".join(["x"] * 21), "fraction " + " and ".join(["x"] * 31),
        ):
            self.assertEqual(desk.ask(line), "error ParseError", repr(line))
            self.assertEqual(told_by(desk.block()), before)

    def test_a_separator_directly_behind_compare(self):
        """The first text begins behind the first space, so the ` / ` that ends it comes later."""
        self.assertEqual(ready(*READY).ask("compare / ann"), "error ParseError")

    def test_too_many_names(self):
        desk = ready(*READY, "put d 1", "put e 1")
        self.check(
            desk, ("fraction ann or bob or cat or d or e", "error CapacityExceeded"), ("fraction ann or bob or cat or d", "1/1"),
            ("compare ann or bob or cat / d or e", "error CapacityExceeded"), ("compare ann or x or bob or cat or d / e",
                                                                              "error UnknownName"),
            ("fraction ann or bob or cat or d or e or x", "error UnknownName"),
        )

    def test_names_of_any_words(self):
        desk = ready("put in 1", "put names 2+i", "put not 1")
        self.check(
            desk, ("names", "in names not"), ("four names", "2+i"), ("drop 1+i", "error UnknownName"),
            ("put 7 1", "error InvalidName"), ("fraction in", "1/1"), ("fraction not", "error ParseError"),
            ("product not", "1"), ("drop /", "error UnknownName"), ("swap ( )", "error UnknownName"),
        )

    def test_answers_of_any_length(self):
        desk = Desk()
        halves = (2 * 10 ** 3000, 2, 0, 0)
        desk.block().apply(("put", "a", halves))
        self.assertEqual(desk.ask("share"), "1" + "0" * 5999 + "1")
        self.assertEqual(desk.ask("fraction a"), "1/1" + "0" * 5999 + "1")
        self.assertEqual(desk.ask("four a"), "1" + "0" * 3000 + "+i")
        self.assertEqual(desk.ask("point a 5 0 0"), "5 0 0")

    def test_keywords(self):
        self.assertEqual(Desk(block=Block(limit=3)).ask(line="limit"), "3")
        with self.assertRaises(TypeError):
            Desk(Block())


class Blocks(unittest.TestCase):
    def test_the_very_block(self):
        for block in (Block(), PlainBlock(limit=4), Block(limit=7)):
            desk = Desk(block=block)
            self.assertIs(desk.block(), block)
            desk.ask("put a 1")
            self.assertEqual((block.names(), block.commands()), (["a"], [("put", "a", (2, 0, 0, 0))]))
            self.assertIs(desk.block(), block)

    def test_a_new_block(self):
        one, other = Desk(), Desk(block=None)
        self.assertEqual([type(desk.block()) for desk in (one, other)], [Block, Block])
        self.assertEqual(told_by(one.block()), told_by(Block()))
        one.ask("put a 1")
        self.assertEqual((one.ask("names"), other.ask("names"), Desk().ask("names")), ("a", "none", "none"))
        self.assertIs(one.block(), one.block())

    def test_plain_blocks(self):
        desk = Desk(block=PlainBlock(limit=4))
        self.assertEqual(desk.ask("put a 2+i"), "error TooFar")
        self.assertEqual(desk.ask("put a 1+i+j"), "ok")
        self.assertEqual((desk.ask("widest"), Desk(block=Block()).ask("widest")), ("3", "1"))

    def test_two_desks_and_steps_by_hand(self):
        block = Block()
        one, other = Desk(block=block), Desk(block=block)
        self.assertEqual(one.ask("put a 1"), "ok")
        self.assertEqual(other.ask("names"), "a")
        block.apply_all(("put", "b", (4, 2, 0, 0)), ("mark", (1, 2, 3)))
        self.assertEqual((one.ask("names"), other.ask("spread a b")), ("a b", "5"))
        self.assertEqual(other.ask("undo"), "ok")
        self.assertEqual((one.ask("names"), block.marks()), ("a", []))
        self.assertEqual(one.ask("redo"), "ok")
        self.assertEqual((other.ask("names"), block.marks(), block.history()), ("a b", [(1, 2, 3)], (2, 0)))
        block.undo()
        self.assertEqual(other.ask("mark 0 0 0"), "ok")
        self.assertEqual(one.ask("redo"), "error NothingLeft")
        block.limit = 77
        self.assertEqual((one.ask("limit"), other.ask("limit")), ("77", "77"))

    def test_a_twin_sees_nothing(self):
        block = Block()
        desk = ready(*READY, block=block)
        twin = block.twin()
        before = told_by(twin)
        for line in ("drop ann", "undo", "undo", "put z 1"):
            self.assertEqual(desk.ask(line), "ok")
        self.assertEqual(told_by(twin), before)
        self.assertEqual(Desk(block=twin).ask("undo"), "ok")
        self.assertEqual(desk.ask("names"), "ann bob cat z")


class AnyLines(unittest.TestCase):
    def some_line(self, source):
        kind = source.choice((*LINE_KINDS, "put", "put", "put", "put", "drop", "turn", *TEXT_WORDS))
        if kind in KINDS:
            command = some_command(source)
            while raised_by(Four, *command[2]) if command[0] in ("put", "turn") else False:
                command = some_command(source)
            return model_text(command)
        if kind == "product":
            text = " * ".join(source.choice(("a", "b", "[1+i]", "( c * a )", "ann '")) for time in range(3))
            return "product " + text
        if kind in TEXT_WORDS:
            texts = [self.condition_words(source) for time in range(2 if kind == "compare" else 1)]
            return " ".join([kind, " / ".join(texts)])
        words = []
        for one in QUESTION_KINDS[kind].split():
            words.append(source.choice(BLOCK_NAMES) if one == "name" else str(source.choice(POINTS)[0]))
        return " ".join([kind, *words])

    def condition_words(self, source):
        words = [source.choice(("a", "b", "not a", "( b or c )", "ann"))]
        for time in range(source.randint(0, 2)):
            words += [source.choice(("and", "or")), source.choice(("a", "c", "not b", "not not ann"))]
        return " ".join(words)

    def test_any_lines(self):
        seen = {}
        for seed in range(60):
            source = random.Random(600 + seed)
            plain, limit = source.choice(((False, 5), (True, 15), (True, 39), (False, 15)))
            block = (PlainBlock if plain else Block)(limit=limit)
            desk, model = Desk(block=block), BlockModel(limit, plain)
            told = DeskModel(model)
            for time in range(80):
                line = self.some_line(source)
                if source.randint(0, 4) == 0:
                    line = changed(source, line, (*WORDS, "/", "and", "*", "(", "names", "compare", "x"))
                if line.startswith(("compare", "fraction")) and any(g.spread > 40 for g in block.grains().values()):
                    continue
                answer = desk.ask(line)
                self.assertEqual(answer, told.answer(line), (seed, line))
                self.assertEqual(told_by(block), model.told(), (seed, line))
                kind = answer if answer in ("ok", "what") or answer.startswith("error") else "told"
                seen[kind] = seen.get(kind, 0) + 1
        for kind in ("ok", "what", "told", "error ParseError", "error UnknownName", "error NothingLeft", "error TooFar"):
            self.assertGreater(seen.get(kind, 0), 20, seen)


if __name__ == "__main__":
    unittest.main()
