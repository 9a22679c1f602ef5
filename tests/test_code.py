"""Code of products: compiled, run and shortened."""

import random
import unittest

from grainmeet.code import compiled, depth, run, shortened
from grainmeet.errors import NothingLeft, UnknownName
from grainmeet.fours import Four
from grainmeet.products import evaluate, product_text, read_product
from grainmeet.turns import Turn
from samples import all_products, some_product

TURNS = {"a": Turn.read("1+i"), "zebra": Turn.read("2+j"), "b": Turn.read("1+i+j+2k")}
PUSHED = ((2, 4, 0, 0), (1, -3, 1, 1), (-4, 0, 0, 0), (0, 2, 0, 0), (0, 0, -2, 2))
CODES = {
    "a": [("load", "a")],
    "[1+2i]": [("push", (2, 4, 0, 0))],
    "[-2]": [("push", (-4, 0, 0, 0))],
    "a '": [("load", "a"), ("inv",)],
    "a ' '": [("load", "a"), ("inv",), ("inv",)],
    "a * b": [("load", "a"), ("load", "b"), ("mul",)],
    "a * b * c": [("load", "a"), ("load", "b"), ("mul",), ("load", "c"), ("mul",)],
    "a * ( b * c )": [("load", "a"), ("load", "b"), ("load", "c"), ("mul",), ("mul",)],
    "( a * [i] ) ' * b '": [
        ("load", "a"), ("push", (0, 2, 0, 0)), ("mul",), ("inv",), ("load", "b"), ("inv",), ("mul",),
    ],
}
I, J, K, DOUBLE = ("push", (0, 2, 0, 0)), ("push", (0, 0, 2, 0)), ("push", (0, 0, 0, 2)), ("push", (-4, 0, 0, 0))
STILL = ("push", (2, 0, 0, 0))
A, MUL, INV = ("load", "a"), ("mul",), ("inv",)
SHORT = [
    ([], []),
    ([A], [A]),
    ([DOUBLE], [DOUBLE]),
    ([DOUBLE, INV], [STILL]),
    ([DOUBLE, INV, INV], [STILL]),
    ([("push", (2, 4, 0, 0)), INV], [("push", (2, -4, 0, 0))]),
    ([("push", (0, -2, 4, 0)), INV, INV], [("push", (0, 2, -4, 0))]),
    ([A, INV], [A, INV]),
    ([A, INV, INV], [A]),
    ([A, INV, INV, INV], [A, INV]),
    ([I, J, MUL], [K]),
    ([J, I, MUL], [K]),
    ([I, J, MUL, INV], [K]),
    ([A, I, MUL], [A, I, MUL]),
    ([I, A, MUL], [I, A, MUL]),
    ([I, A, MUL, INV, INV], [I, A, MUL]),
    ([I, A, INV, INV, J, MUL, MUL], [I, A, J, MUL, MUL]),
    ([A, I, J, MUL, INV, MUL], [A, K, MUL]),
    ([("push", (2, 4, 0, 0)), ("push", (2, 4, 0, 0)), MUL], [("push", (6, -8, 0, 0))]),
    ([I, J, I, MUL, MUL, J, MUL], [STILL]),
    ([I, INV, J, INV, MUL], [K]),
    ([INV, INV], []),
    ([INV, INV, INV], [INV]),
    ([I, INV, INV, INV], [I]),
    ([MUL, INV, INV, MUL], [MUL, MUL]),
    ([I, INV, INV, J, MUL], [K]),
    ([A, INV, INV, I, J, INV, INV, MUL, MUL], [A, K, MUL]),
]


def decompiled(code):
    """The products that a code leaves on an empty stack; UnknownName is not checked."""
    stack = []
    for instruction in code:
        if instruction[0] == "push":
            stack.append(("four", instruction[1]))
        elif instruction[0] == "load":
            stack.append(("name", instruction[1]))
        elif instruction[0] == "inv":
            stack.append(("back", stack.pop()))
        else:
            other = stack.pop()
            stack.append(("times", stack.pop(), other))
    return stack


def failure(code, names):
    """What a code fails with: the unknown name, NothingLeft, or None."""
    many = 0
    for instruction in code:
        if instruction[0] == "load" and instruction[1] not in names:
            return instruction[1]
        needed = {"push": 0, "load": 0, "inv": 1, "mul": 2}[instruction[0]]
        if many < needed:
            return NothingLeft
        many += 1 - needed
    return None if many == 1 else NothingLeft


def places(code):
    """The foldable places of a code, as pairs of their ends and their beginnings."""
    kinds = [instruction[0] for instruction in code]
    found = []
    for end in range(1, len(code) + 1):
        if kinds[max(0, end - 2):end] in (["inv", "inv"], ["push", "inv"]):
            found.append((end, end - 2))
        if kinds[max(0, end - 3):end] == ["push", "push", "mul"]:
            found.append((end, end - 3))
    return found


def folded_once(code):
    """The code with the place folded that ends first."""
    end, start = min(places(code))
    place = code[start:end]
    if place == [INV, INV]:
        return code[:start] + code[end:]
    turn = Turn(Four(*place[0][1]))
    if place[-1] == INV:
        turn = -turn
    else:
        turn = turn * Turn(Four(*place[1][1]))
    return code[:start] + [("push", turn.four.halves)] + code[end:]


def some_code(source, longest):
    """Any list of instructions."""
    found = []
    for time in range(source.randint(0, longest)):
        kind = source.choice(("push", "push", "load", "inv", "mul"))
        if kind == "push":
            found.append((kind, source.choice(PUSHED)))
        elif kind == "load":
            found.append((kind, source.choice(("a", "b", "zebra", "x", "y", "z"))))
        else:
            found.append((kind,))
    return found


def each_product():
    source = random.Random(141)
    yield from all_products(3)
    for time in range(300):
        yield some_product(source, 5)


class Compiled(unittest.TestCase):
    def test_table(self):
        for text, code in CODES.items():
            self.assertEqual(compiled(read_product(text)), code)

    def test_code_tells_the_product(self):
        for product in each_product():
            self.assertEqual(decompiled(compiled(product)), [product])

    def test_kinds_of_values(self):
        code = compiled(read_product("a * [i] '"))
        self.assertIs(type(code), list)
        self.assertEqual({type(instruction) for instruction in code}, {tuple})

    def test_a_new_list_each_time(self):
        product = read_product("a * b")
        code = compiled(product)
        code.clear()
        self.assertEqual(compiled(product), CODES["a * b"])

    def test_keyword(self):
        self.assertEqual(compiled(product=("name", "a")), [A])


class Run(unittest.TestCase):
    def check_failure(self, code, turns):
        told = failure(code, turns)
        if told is NothingLeft:
            with self.assertRaises(NothingLeft, msg=code):
                run(code, turns)
        elif told is not None:
            with self.assertRaises(UnknownName, msg=code) as caught:
                run(code, turns)
            self.assertEqual(caught.exception.name, told)
        return told is not None

    def test_the_turn_of_the_product(self):
        for product in each_product():
            self.assertEqual(run(compiled(product), TURNS), evaluate(product, TURNS))

    def test_the_last_turn_is_the_second_factor(self):
        code = [("load", "a"), ("load", "b"), ("mul",)]
        self.assertEqual(run(code, TURNS), TURNS["a"] * TURNS["b"])
        self.assertNotEqual(run(code, TURNS), TURNS["b"] * TURNS["a"])

    def test_any_list_of_instructions(self):
        source = random.Random(142)
        left = 0
        for time in range(8000):
            code = some_code(source, 7)
            turns = {name: TURNS[name] for name in TURNS if source.randint(0, 3)}
            if not self.check_failure(code, turns):
                left += 1
                self.assertEqual(run(code, turns), evaluate(decompiled(code)[0], turns))
        self.assertGreater(left, 500)

    def test_too_few_and_too_many(self):
        for code in ([], [INV], [MUL], [I, MUL], [I, J], [A, A, A, MUL], [I, J, MUL, MUL], [INV, A], [MUL, ("load", "x")]):
            self.assertIs(failure(code, TURNS), NothingLeft)
            self.assertTrue(self.check_failure(code, TURNS))

    def test_unknown_names_come_where_they_stand(self):
        for code in ([("load", "x")], [A, ("load", "y"), ("load", "x")], [("load", "x"), MUL], [I, ("load", "x")],
                     [A, A, ("load", "y"), MUL, MUL, MUL]):
            self.assertIsInstance(failure(code, TURNS), str)
            self.assertTrue(self.check_failure(code, TURNS))

    def test_arguments_stay(self):
        code = compiled(read_product("a * [i] ' * b"))
        kept, turns = list(code), dict(TURNS)
        run(code, turns)
        self.assertEqual((code, turns), (kept, TURNS))

    def test_keywords(self):
        self.assertEqual(run(turns=TURNS, code=[A]), TURNS["a"])


class Shortened(unittest.TestCase):
    def check(self, code):
        kept = list(code)
        short = shortened(code)
        self.assertEqual(code, kept)
        while places(code):
            code = folded_once(code)
        self.assertEqual(short, code)
        self.assertEqual(places(short), [])
        return short

    def test_table(self):
        for code, short in SHORT:
            self.assertEqual(shortened(code), short)
            self.check(code)

    def test_codes_of_products(self):
        for product in each_product():
            code = compiled(product)
            short = self.check(code)
            self.assertEqual(run(short, TURNS), run(code, TURNS))
            if not any(name in product_text(product) for name in ("a", "zebra")):
                self.assertEqual(len(short), 1)

    def test_any_list_of_instructions(self):
        source = random.Random(143)
        for time in range(4000):
            code = some_code(source, 12)
            short = self.check(code)
            if failure(code, TURNS) is None:
                self.assertEqual(run(short, TURNS), run(code, TURNS))

    def test_a_new_list(self):
        code = [A, INV]
        shortened(code).append(MUL)
        self.assertEqual(code, [A, INV])
        self.assertIsNot(shortened([]), shortened([]))

    def test_keyword(self):
        self.assertEqual(shortened(code=[A, INV, INV]), [A])


class Depth(unittest.TestCase):
    def test_table(self):
        told = {"a": 1, "a '": 1, "a * b": 2, "a * b * c * d": 2, "a * ( b * c )": 3, "a * ( b * ( c * d ) ) '": 4,
                "( a * b ) * ( c * d )": 3, "[i]": 1}
        for text, most in told.items():
            self.assertEqual(depth(compiled(read_product(text))), most, text)
        self.assertEqual(depth([]), 0)

    def test_the_greatest_number_of_turns(self):
        for product in each_product():
            code = compiled(product)
            self.assertEqual(depth(code), max(len(decompiled(code[:end])) for end in range(len(code) + 1)))

    def test_keyword(self):
        self.assertEqual(depth(code=[A]), 1)


if __name__ == "__main__":
    unittest.main()
