"""The interface of the document: each name in its file, with its parameters, and each method in its class."""

import importlib
import inspect
import unittest

FUNCTIONS = {
    "numbers": ["common(one, other)", "factor(number)", "primes_of(number)", "divisors(number)",
                "inverse(number, modulus)"],
    "fours": ["four_text(halves)"],
    "division": ["divide_left(one, other)", "associate(four)", "common_left(one, other)", "part_left(four, number)",
                 "divides_left(one, other)"],
    "turns": [],
    "grains": ["relative(one, other)", "spread(one, other)", "is_ring(number, row)"],
    "listing": ["count_at(number)", "leans(prime)", "grains_at(number)", "near(grain, number)"],
    "ways": ["part(grain, prime)", "joined(*grains)", "way(one, other, *, primes=None)",
             "is_way(one, other, grains)", "ways_count(one, other)", "between(one, other)",
             "is_between(one, other, grain)", "midst(one, two, three)", "is_midst(one, two, three, grain)"],
    "grids": ["shared(*grains)"],
    "products": ["is_name(text)", "read_product(text)", "product_text(product)", "evaluate(product, turns)"],
    "code": ["compiled(product)", "run(code, turns)", "shortened(code)", "depth(code)"],
    "conditions": ["names_in(condition)", "holds(condition, grains, point)", "fraction(condition, grains)",
                   "same(one, other, grains)", "witness(one, other, grains)", "read_condition(text)",
                   "condition_text(condition)"],
    "blocks": [],
    "trials": ["attempt(block, *commands)", "first_refused(block, *commands)"],
    "pages": ["command_text(command)", "read_command(text)", "format_block(block)", "read_block(text)"],
    "desks": [],
    "tables": ["table(block)"],
}
CLASSES = {
    ("fours", "Four"): ["whole(number)", "units()", "read(text)", "mirrored(self)", "content(self)", "text(self)",
                        "divided(self, number)", "__init__(self, *halves)"],
    ("turns", "Turn"): ["still()", "cube()", "read(text)", "rows(self)", "image(self, point)",
                        "__call__(self, point)", "power(self, times)", "__init__(self, four)"],
    ("grains", "Grain"): ["plain()", "of_ring(number, row)", "coordinates(self, point)", "ring(self)",
                          "turned(self, turn)", "__init__(self, turn)"],
    ("grids", "Grid"): ["whole()", "basis(self)", "within(self, other)", "narrowed(self, grain)",
                        "points(self, bound)"],
    ("blocks", "Block"): ["__init__(self, *, limit=10000)", "widest(self)", "share(self)", "change_limit(self, limit)",
                          "names(self)", "grain(self, name)", "grains(self)", "marks(self)", "homes(self, point)",
                          "spread_of(self, one, other)", "apply(self, command)", "apply_all(self, *commands)",
                          "undo(self)", "redo(self)", "history(self)", "commands(self)", "twin(self)"],
    ("blocks", "PlainBlock"): ["__init__(self, *, limit=10000)"],
    ("desks", "Desk"): ["__init__(self, *, block=None)", "block(self)", "ask(self, line)"],
}
PROPERTIES = {
    ("fours", "Four"): ["halves", "size"],
    ("turns", "Turn"): ["four", "spread"],
    ("grains", "Grain"): ["four", "turn", "spread"],
    ("grids", "Grid"): ["one_in"],
    ("blocks", "Block"): ["limit", "busy"],
}
OPERATORS = {
    ("fours", "Four"): ["__add__", "__sub__", "__mul__", "__neg__", "__bool__", "__eq__", "__repr__"],
    ("turns", "Turn"): ["__mul__", "__neg__", "__eq__", "__repr__"],
    ("grains", "Grain"): ["__contains__", "__eq__", "__repr__"],
    ("grids", "Grid"): ["__contains__", "__eq__", "__repr__"],
    ("blocks", "Block"): ["__len__"],
}
GENERATORS = [("listing", "near"), ("ways", "between")]


def module(name):
    return importlib.import_module("grainmeet." + name)


def body_of(place):
    """What stands in the body of a class itself."""
    return vars(getattr(module(place[0]), place[1]))


class Interface(unittest.TestCase):
    def test_functions(self):
        for name, told in FUNCTIONS.items():
            for line in told:
                function = getattr(module(name), line.partition("(")[0])
                self.assertEqual(function.__name__ + str(inspect.signature(function)), line)
                self.assertEqual(function.__module__, "grainmeet." + name)

    def test_methods(self):
        for place, told in CLASSES.items():
            body = body_of(place)
            for line in told:
                method = body[line.partition("(")[0]]
                method = getattr(method, "__func__", method)
                self.assertEqual(method.__name__ + str(inspect.signature(method)), line)
                self.assertEqual(method.__module__, "grainmeet." + place[0])

    def test_static_methods(self):
        for place, told in CLASSES.items():
            for line in told:
                name, mark, rest = line.partition("(")
                self.assertEqual(isinstance(body_of(place)[name], staticmethod), not rest.startswith("self"), line)

    def test_properties_and_operators(self):
        for place, names in PROPERTIES.items():
            for name in names:
                self.assertIsInstance(body_of(place)[name], property, (place, name))
        for place, names in OPERATORS.items():
            for name in names:
                self.assertTrue(inspect.isfunction(body_of(place)[name]), (place, name))

    def test_generators(self):
        for name, function in GENERATORS:
            self.assertTrue(inspect.isgeneratorfunction(getattr(module(name), function)))
        self.assertTrue(inspect.isgeneratorfunction(body_of(("grids", "Grid"))["points"]))


if __name__ == "__main__":
    unittest.main()
