"""The general rules of the document over the whole program.

Each function and method is called with its parameters by keyword, in each order; its arguments stay as they were, and
the lists and dicts that it returns are new ones.
"""

import inspect
import itertools
import unittest

from grainmeet import (
    blocks, code, conditions, desks, division, fours, grains, grids, listing, numbers, pages, products, tables, trials,
    turns, ways,
)
from grainmeet.blocks import Block, PlainBlock
from grainmeet.desks import Desk
from grainmeet.errors import InvalidNumber
from grainmeet.fours import Four
from grainmeet.grains import Grain
from grainmeet.grids import Grid, shared
from grainmeet.turns import Turn
from samples import told_by
from test_interface import CLASSES, FUNCTIONS, PROPERTIES

MODULES = {
    "blocks": blocks, "code": code, "conditions": conditions, "desks": desks, "division": division, "fours": fours,
    "grains": grains, "grids": grids, "listing": listing, "numbers": numbers, "pages": pages, "products": products,
    "tables": tables, "trials": trials, "turns": turns, "ways": ways,
}
ONE, TWO = Four.read("3+i-2j"), Four.read("2+i")
STILL, FIVE, THREE = Grain.plain(), Grain(Turn.read("2+i")), Grain(Turn.read("1+i+j"))
FAR = Grain(Turn.read("2+i") * Turn.read("1+i+j"))
PRODUCT = ("times", ("name", "a"), ("back", ("four", (2, 4, 0, 0))))
CODE = [("load", "a"), ("push", (2, 4, 0, 0)), ("inv",), ("mul",)]
CONDITION, OTHER = ("and", ("in", "a"), ("not", ("in", "b"))), ("in", "a")
COMMANDS = (("put", "c", (2, 0, 0, 0)), ("drop", "x"), ())


def some_turns():
    return {"a": Turn.read("2+i"), "b": Turn.read("j")}


def some_grains():
    return {"a": FIVE, "b": THREE}


def some_block():
    """A block with a step to undo, one to redo, two grains and a mark."""
    block = PlainBlock(limit=50)
    block.apply(("put", "a", (4, 2, 0, 0)))
    block.apply_all(("put", "b", (2, 2, 2, 0)), ("mark", (0, 3, 4)))
    block.apply(("drop", "a"))
    block.undo()
    return block


# Values for the parameters of each function. A tuple under a parameter with a star is passed by position.
VALUES = {
    "common": {"one": -12, "other": 18}, "factor": {"number": 360}, "primes_of": {"number": 360},
    "divisors": {"number": 360}, "inverse": {"number": 3, "modulus": 7}, "four_text": {"halves": (1, -3, 5, 7)},
    "divide_left": {"one": ONE, "other": TWO}, "associate": {"four": ONE}, "common_left": {"one": ONE, "other": TWO},
    "part_left": {"four": ONE, "number": 7}, "divides_left": {"one": ONE, "other": TWO * ONE},
    "relative": {"one": FIVE, "other": THREE}, "spread": {"one": FIVE, "other": FAR},
    "is_ring": {"number": 5, "row": (0, 3, 4)}, "count_at": {"number": 15}, "leans": {"prime": 5},
    "grains_at": {"number": 9}, "near": {"grain": FIVE, "number": 3}, "part": {"grain": FAR, "prime": 5},
    "joined": {"grains": (FIVE, THREE)}, "way": {"one": STILL, "other": FAR, "primes": [5, 3]},
    "is_way": {"one": STILL, "other": FAR, "grains": [STILL, FIVE, FAR]}, "ways_count": {"one": STILL, "other": FAR},
    "between": {"one": STILL, "other": FAR}, "is_between": {"one": STILL, "other": FAR, "grain": FIVE},
    "midst": {"one": STILL, "two": FAR, "three": THREE},
    "is_midst": {"one": STILL, "two": FAR, "three": THREE, "grain": STILL}, "shared": {"grains": (FIVE, THREE)},
    "is_name": {"text": "ann"}, "read_product": {"text": "a * [1+2i] '"}, "product_text": {"product": PRODUCT},
    "evaluate": {"product": PRODUCT, "turns": some_turns()}, "compiled": {"product": PRODUCT},
    "run": {"code": CODE, "turns": some_turns()}, "shortened": {"code": CODE}, "depth": {"code": CODE},
    "names_in": {"condition": CONDITION},
    "holds": {"condition": CONDITION, "grains": some_grains(), "point": (0, 3, 4)},
    "fraction": {"condition": CONDITION, "grains": some_grains()},
    "same": {"one": CONDITION, "other": OTHER, "grains": some_grains()},
    "witness": {"one": CONDITION, "other": OTHER, "grains": some_grains()},
    "read_condition": {"text": "a and not b"}, "condition_text": {"condition": CONDITION},
    "attempt": {"block": some_block(), "commands": COMMANDS},
    "first_refused": {"block": some_block(), "commands": COMMANDS}, "command_text": {"command": ("mark", (1, -2, 3))},
    "read_command": {"text": "mark 1 -2 3"}, "format_block": {"block": some_block()},
    "read_block": {"text": "block 5\nput a 1\n"}, "table": {"block": some_block()},
}
METHODS = {
    "Four": {
        "whole": {"number": 3}, "units": {}, "read": {"text": "1+2i"}, "mirrored": {}, "content": {}, "text": {},
        "divided": {"number": -1}, "__init__": {"halves": (1, 3, 5, 7)},
    },
    "Turn": {
        "still": {}, "cube": {}, "read": {"text": "1+2i"}, "rows": {}, "image": {"point": (1, 2, 3)},
        "__call__": {"point": (1, 2, 3)}, "power": {"times": -3}, "__init__": {"four": ONE},
    },
    "Grain": {
        "plain": {}, "of_ring": {"number": 5, "row": (0, 3, 4)}, "coordinates": {"point": (0, 3, 4)}, "ring": {},
        "turned": {"turn": Turn.read("1+i+j")}, "__init__": {"turn": Turn.read("2+i")},
    },
    "Grid": {
        "whole": {}, "basis": {}, "within": {"other": shared(FIVE)}, "narrowed": {"grain": THREE}, "points": {"bound": 4},
    },
    "Block": {
        "__init__": {"limit": 7}, "widest": {}, "share": {}, "change_limit": {"limit": 70}, "names": {},
        "grain": {"name": "b"}, "grains": {}, "marks": {}, "homes": {"point": (0, 3, 4)},
        "spread_of": {"one": "a", "other": "b"}, "apply": {"command": ("mark", (1, 2, 3))},
        "apply_all": {"commands": (("mark", (1, 2, 3)), ("drop", "a"))}, "undo": {}, "redo": {}, "history": {},
        "commands": {}, "twin": {},
    },
    "PlainBlock": {"__init__": {"limit": 7}},
    "Desk": {"__init__": {"block": some_block()}, "block": {}, "ask": {"line": "four b"}},
}
OBJECTS = {
    "Four": lambda: Four(4, 2, 0, 2), "Turn": lambda: Turn.read("2+i-k"), "Grain": lambda: Grain(Turn.read("2+i")),
    "Grid": lambda: shared(FIVE, THREE), "Block": some_block, "PlainBlock": some_block,
    "Desk": lambda: Desk(block=some_block()),
}
MADE = {"Four": Four, "Turn": Turn, "Grain": Grain, "Grid": Grid, "Block": Block, "PlainBlock": PlainBlock, "Desk": Desk}


def seen(value):
    """What a value shows of itself, so that a copy can be kept: blocks and desks by all that they tell."""
    if isinstance(value, Block):
        return type(value).__name__, sorted(told_by(value).items())
    if isinstance(value, Desk):
        return "Desk", seen(value.block())
    if isinstance(value, (list, tuple)):
        return type(value).__name__, [seen(one) for one in value]
    if isinstance(value, dict):
        return "dict", [(name, seen(one)) for name, one in value.items()]
    if inspect.isgenerator(value):
        return "generator", [seen(one) for one in value]
    return type(value).__name__, repr(value)


def each_call():
    """A maker of a callable, the line of the interface, and the values, for each function and method."""
    for module, lines in FUNCTIONS.items():
        for line in lines:
            name = line.partition("(")[0]
            function = getattr(MODULES[module], name)
            yield (lambda function=function: function), line, VALUES[name]
    for (module, owner), lines in CLASSES.items():
        for line in lines:
            name = line.partition("(")[0]
            yield (lambda owner=owner, name=name: bound(owner, name)), line, METHODS[owner][name]


def bound(owner, name):
    """A method of a new object; the class itself for the one that makes its objects."""
    if name == "__init__":
        return MADE[owner]
    return OBJECTS[owner]() if name == "__call__" else getattr(OBJECTS[owner](), name)


def starred_of(line, values):
    """The name of the parameter with a star that a line of the interface has, or None."""
    return next((name for name in values if "*" + name in line), None)


class Keywords(unittest.TestCase):
    def test_each_call_in_each_order(self):
        for make, line, values in each_call():
            starred = starred_of(line, values)
            named = {name: value for name, value in values.items() if name != starred}
            # Values of a parameter with a star stand behind others by position, so none are passed beside keywords.
            rest = values[starred] if starred and not named else ()
            behind = line.partition("*, ")[2]
            placed = [value for name, value in named.items() if name + "=" not in behind]
            expected = self.outcome(make, [*placed, *rest], {name: named[name] for name in named if name + "=" in behind})
            for order in itertools.permutations(named):
                self.assertEqual(self.outcome(make, rest, {name: named[name] for name in order}), expected, (line, order))

    def outcome(self, make, positional, named):
        """What a call returns, and what it leaves of the object whose method it is."""
        method = make()
        told = seen(method(*positional, **named))
        owner = getattr(method, "__self__", None)
        return told, None if owner is None or inspect.isclass(owner) else seen(owner)

    def test_keyword_only(self):
        for call in (lambda: ways.way(STILL, FAR, [3, 5]), lambda: Block(5), lambda: PlainBlock(5), lambda: Desk(Block())):
            with self.assertRaises(TypeError):
                call()

    def test_defaults_left_out(self):
        self.assertEqual(ways.way(STILL, FAR), ways.way(STILL, FAR, primes=[3, 5]))
        self.assertEqual(ways.way(other=FAR, one=STILL), ways.way(STILL, FAR, primes=None))
        self.assertEqual((Block().limit, PlainBlock().limit, Desk().block().limit), (10000, 10000, 10000))
        self.assertEqual((trials.attempt(Block()), trials.first_refused(Block())), ([], None))
        self.assertEqual((ways.joined(), shared()), (STILL, Grid.whole()))
        block = Block()
        block.apply_all()
        self.assertEqual(block.history(), (1, 0))

    def test_all_of_the_interface_is_called(self):
        self.assertEqual(sorted(VALUES), sorted(line.partition("(")[0] for lines in FUNCTIONS.values() for line in lines))
        for (module, owner), lines in CLASSES.items():
            self.assertEqual(sorted(METHODS[owner]), sorted(line.partition("(")[0] for line in lines))


class Arguments(unittest.TestCase):
    def called(self, make, line, values):
        """Calls as the interface says, with all values."""
        starred = starred_of(line, values)
        named = {name: value for name, value in values.items() if name != starred}
        if not starred:
            return make()(**named)
        return make()(*named.values(), *values[starred])

    def test_arguments_stay(self):
        for make, line, values in each_call():
            before = {name: seen(value) for name, value in values.items()}
            self.assertIsNotNone(seen(self.called(make, line, values)))
            self.assertEqual({name: seen(value) for name, value in values.items()}, before, line)

    def test_new_lists_and_dicts(self):
        found = 0
        for make, line, values in each_call():
            method = make()
            first = self.called(lambda: method, line, values)
            if isinstance(first, (list, dict)):
                found += 1
                told = seen(first)
                first.clear()
                self.assertEqual(seen(self.called(lambda: method, line, values)), told, line)
                for value in values.values():
                    self.assertIsNot(first, value, line)
        self.assertGreater(found, 15)

    def test_queries_change_no_object(self):
        changing = ("change_limit", "apply", "apply_all", "undo", "redo")
        for (module, owner), lines in CLASSES.items():
            for line in lines:
                name = line.partition("(")[0]
                if "(self" in line and name not in ("__init__", "__call__", *changing):
                    one = OBJECTS[owner]()
                    before = seen(one)
                    self.assertIsNotNone(seen(self.called(lambda: getattr(one, name), line, METHODS[owner][name])))
                    self.assertEqual(seen(one), before, line)

    def test_properties_change_no_object(self):
        for (module, owner), names in PROPERTIES.items():
            one = OBJECTS[owner]()
            before = seen(one)
            for name in names:
                self.assertEqual(seen(getattr(one, name)), seen(getattr(one, name)))
            self.assertEqual(seen(one), before)


class Generators(unittest.TestCase):
    def test_errors_when_the_first_element_is_asked_for(self):
        huge = Grain(Turn(Four(2 * 10 ** 8, 2, 0, 0)))
        for made in (listing.near(FIVE, 0), listing.near(grain=FIVE, number=100), ways.between(STILL, huge)):
            with self.assertRaises(InvalidNumber):
                next(made)


if __name__ == "__main__":
    unittest.main()
