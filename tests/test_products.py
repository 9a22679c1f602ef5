"""Products: their texts, read and written, and their turns."""

import itertools
import random
import unittest

from grainmeet.errors import ParseError, UnknownName
from grainmeet.fours import Four
from grainmeet.products import evaluate, is_name, product_text, read_product
from grainmeet.turns import Turn
from samples import all_products, applied, fractions_of, some_points, some_product, table_of

WORDS = {
    "a": "a", "zebra": "zebra", (2, 4, 0, 0): "[1+2i]", (1, -3, 1, 1): "[1/2-3/2i+1/2j+1/2k]", (-4, 0, 0, 0): "[-2]",
}
TURNS = {"a": Turn.read("1+i"), "zebra": Turn.read("2+j"), "b": Turn.read("1+i+j+2k")}
TEXTS = {
    "a": ("name", "a"),
    "a * b": ("times", ("name", "a"), ("name", "b")),
    "a * b * c": ("times", ("times", ("name", "a"), ("name", "b")), ("name", "c")),
    "a * ( b * c )": ("times", ("name", "a"), ("times", ("name", "b"), ("name", "c"))),
    "a '": ("back", ("name", "a")),
    "a ' '": ("back", ("back", ("name", "a"))),
    "a * b '": ("times", ("name", "a"), ("back", ("name", "b"))),
    "( a * b ) '": ("back", ("times", ("name", "a"), ("name", "b"))),
    "a ' * b": ("times", ("back", ("name", "a")), ("name", "b")),
    "[1+2i]": ("four", (2, 4, 0, 0)),
    "[2] * [-k]": ("times", ("four", (4, 0, 0, 0)), ("four", (0, 0, 0, -2))),
    "[i] * ( b * a ) '": ("times", ("four", (0, 2, 0, 0)), ("back", ("times", ("name", "b"), ("name", "a")))),
}
BRACKETED = {
    "( a )": "a",
    "( ( a ) )": "a",
    "( a ) '": "a '",
    "( a ' )": "a '",
    "( a ' ) '": "a ' '",
    "( a * b ) * c": "a * b * c",
    "( a ) * ( b )": "a * b",
    "( a * ( b ) ' )": "a * b '",
}
REFUSED = {
    "": 0, " ": 0, "  ": 0, "a ": 1, " a": 0, "a  * b": 1, "a *": 2, "a * ": 2, "*": 0, "'": 0, "' a": 0, "(": 1,
    ")": 0, "( )": 1, "( a": 2, "( a *": 3, "a )": 1, "( a ) )": 3, "a b": 1, "a ( b )": 1, "a * * b": 2,
    "a * '": 2, "a ' b": 2, "a ' (": 2, "( a b": 2, "( ( a )": 4, "( a ) b": 3, "[0]": 0, "a * [0]": 2, "[]": 0,
    "[": 0, "]": 0, "[1": 0, "1]": 0, "1": 0, "[1i]": 0, "[ 1 ]": 0, "[1 ]": 0, "[+1]": 0, "a*b": 0, "a'": 0,
    "(a)": 0, "A": 0, "a * B": 2, "a1": 0, "a_b": 0, "abcdefghi": 0, "a * abcdefghi": 2, "a\n": 0, "\na": 0,
    "a\n* b": 0, "a * b\n": 2, "a * \n": 2, "[1]\n": 0, "[[1]]": 0, "[1] [1]": 1, "([1])": 0, "a /": 1, "a + b": 1,
    "-a": 0, "- a": 0, "a '' b": 1, "a **": 1, "()": 0, "[a]": 0, "123": 0, "[12": 0, "12]": 0, "(1)": 0, "a * (1]": 2,
    "a * [i)": 2,
}


def words_of(product):
    """The words of a product with brackets about each part that is no leaf."""
    if product[0] == "back":
        return [*bracketed(product[1]), "'"]
    if product[0] == "times":
        return [*bracketed(product[1]), "*", *bracketed(product[2])]
    return [WORDS[product[1]]]


def bracketed(product):
    words = words_of(product)
    return words if len(words) == 1 else ["(", *words, ")"]


def is_operand(word):
    """Whether a word is a name or a four in square brackets."""
    if word.startswith("[") and word.endswith("]"):
        try:
            return bool(Four.read(word[1:-1]))
        except ParseError:
            return False
    return 1 <= len(word) <= 8 and all(letter in "abcdefghijklmnopqrstuvwxyz" for letter in word)


def first_wrong(words):
    """The index of the first word that cannot follow, the number of words if they end too early, or None."""
    depth = 0
    behind_factor = False
    for at, word in enumerate(words):
        if behind_factor:
            if word == ")" and depth > 0:
                depth -= 1
            elif word == "*":
                behind_factor = False
            elif word != "'":
                return at
        elif word == "(":
            depth += 1
        elif is_operand(word):
            behind_factor = True
        else:
            return at
    return None if behind_factor and depth == 0 else len(words)


class Names(unittest.TestCase):
    def test_names(self):
        for text in ("a", "z", "ann", "abcdefgh", "zzzzzzzz", "in", "and", "not", "or"):
            self.assertIs(is_name(text), True)

    def test_no_names(self):
        for text in ("", "abcdefghi", "A", "aB", "a1", "1", "a b", " a", "a ", "a\n", "\n", "-", "a-b", "a_b", "'", "(",
                     "\u00e9", "a\u00df", "\u0131", "[a]", "zzzzzzzzz", "`", "{"):
            self.assertIs(is_name(text), False, text)

    def test_all_single_characters(self):
        for code in range(300):
            self.assertIs(is_name(chr(code)), "a" <= chr(code) <= "z")
            self.assertIs(is_name("b" + chr(code)), "a" <= chr(code) <= "z")


class Texts(unittest.TestCase):
    def check_read(self, words):
        told = first_wrong(words)
        text = " ".join(words)
        if len(words) > 40:
            self.check_refused(text, 40)
        elif told is None:
            product = read_product(text)
            self.assertEqual(read_product(product_text(product)), product)
        else:
            self.check_refused(text, told)

    def check_refused(self, text, at):
        with self.assertRaises(ParseError, msg=repr(text)) as caught:
            read_product(text)
        self.assertEqual(caught.exception.at, at, repr(text))

    def check_fewest_brackets(self, product):
        """The text is read back, and without any one pair of its brackets it is another product."""
        text = product_text(product)
        self.assertEqual(read_product(text), product)
        words = text.split(" ")
        opened = []
        for at, word in enumerate(words):
            if word == "(":
                opened.append(at)
            elif word == ")":
                start = opened.pop()
                fewer = words[:start] + words[start + 1:at] + words[at + 1:]
                self.assertNotEqual(read_product(" ".join(fewer)), product)

    def test_table(self):
        for text, product in TEXTS.items():
            self.assertEqual(read_product(text), product)
            self.assertEqual(product_text(product), text)

    def test_brackets_that_are_not_needed(self):
        for text, fewest in BRACKETED.items():
            self.assertEqual(read_product(text), read_product(fewest))
            self.assertEqual(product_text(read_product(text)), fewest)

    def test_all_products_of_three_levels(self):
        for product in all_products(3):
            self.check_fewest_brackets(product)
            self.assertEqual(read_product(" ".join(words_of(product))), product)

    def test_some_deeper_products(self):
        source = random.Random(121)
        for time in range(600):
            product = some_product(source, 4)
            if len(words_of(product)) <= 40:
                self.check_fewest_brackets(product)
                self.assertEqual(read_product(" ".join(words_of(product))), product)

    def test_kinds_of_values(self):
        product = read_product("a * [1+2i] '")
        self.assertEqual([type(product), type(product[2]), type(product[2][1][1])], [tuple, tuple, tuple])

    def test_refused_texts(self):
        for text, at in REFUSED.items():
            self.assertEqual(first_wrong(text.split(" ")), at, repr(text))
            self.check_refused(text, at)

    def test_all_short_texts(self):
        for many in range(1, 6):
            for words in itertools.product(("a", "[i]", "*", "'", "(", ")", ""), repeat=many):
                self.check_read(list(words))

    def test_changed_texts(self):
        source = random.Random(122)
        others = ["a", "zebra", "[1+2i]", "[0]", "[2i+1]", "*", "'", "(", ")", "", "B", "a*", "[k]"]
        for time in range(3000):
            words = product_text(some_product(source, 4)).split(" ")
            at = source.randrange(len(words) + 1)
            kept = source.choice((at, at + 1))
            added = source.choice(([], [source.choice(others)]))
            self.check_read(words[:at] + added + words[kept:])

    def test_number_of_words(self):
        for many in range(1, 26):
            self.check_read(" * ".join(["a"] * many).split(" "))
        for words in (["a"] + ["'"] * 39, ["a"] + ["'"] * 40, ["("] * 40, ["("] * 41, ["*"] * 40, ["*"] * 41,
                      ["("] * 19 + ["a"] + [")"] * 19, ["("] * 20 + ["a"] + [")"] * 20, [""] * 40, [""] * 41,
                      ["a", "b"] * 20, ["a", "b"] * 30, ["a", "*"] * 20):
            self.check_read(words)
        self.check_refused("* " * 60 + "a", 40)
        self.check_refused("a " * 41, 40)

    def test_long_texts_are_written(self):
        product = ("name", "a")
        for time in range(60):
            product = ("times", product, ("back", ("name", "b")))
        self.assertEqual(product_text(product), "a" + " * b '" * 60)

    def test_keywords(self):
        self.assertIs(is_name(text="a"), True)
        self.assertEqual(read_product(text="a '"), ("back", ("name", "a")))
        self.assertEqual(product_text(product=("back", ("name", "a"))), "a '")


class Turns(unittest.TestCase):
    def place_after(self, product, point):
        """What a product does to a point, by the tables of its parts."""
        if product[0] == "name":
            return applied(table_of(TURNS[product[1]].four), point)
        if product[0] == "four":
            return applied(table_of(Four(*product[1])), point)
        if product[0] == "times":
            return self.place_after(product[1], self.place_after(product[2], point))
        return self.place_before(product[1], point)

    def place_before(self, product, point):
        """What the inverse of a product does to a point."""
        if product[0] == "name":
            return applied(list(zip(*table_of(TURNS[product[1]].four))), point)
        if product[0] == "four":
            return applied(list(zip(*table_of(Four(*product[1])))), point)
        if product[0] == "times":
            return self.place_before(product[2], self.place_before(product[1], point))
        return self.place_after(product[1], point)

    def test_what_products_do_to_points(self):
        for product in all_products(3)[::3]:
            turn = evaluate(product, TURNS)
            for point in some_points(123, 3):
                self.assertEqual(fractions_of(turn.image(point)), self.place_after(product, point))

    def test_named_ones(self):
        a, b = TURNS["a"], TURNS["b"]
        self.assertEqual(evaluate(read_product("a"), TURNS), a)
        self.assertEqual(evaluate(read_product("a * b"), TURNS), a * b)
        self.assertEqual(evaluate(read_product("a ' * b"), TURNS), -a * b)
        self.assertEqual(evaluate(read_product("( a * b ) '"), TURNS), -b * -a)
        self.assertEqual(evaluate(read_product("[2i]"), {}), Turn.read("i"))

    def check_unknown(self, product, name, turns):
        with self.assertRaises(UnknownName) as caught:
            evaluate(product, turns)
        self.assertEqual(caught.exception.name, name)

    def test_unknown_names(self):
        self.check_unknown(read_product("a"), "a", {})
        told = {"x": "x", "a * x * y": "x", "a * ( y * x ) '": "y", "( b * ( x ' * a ) ) * y": "x",
                "[i] * a * x '": "x", "( zebra * y ) * x": "y"}
        for text, name in told.items():
            self.check_unknown(read_product(text), name, TURNS)

    def test_the_first_unknown_name_of_any_product(self):
        source = random.Random(124)
        for time in range(300):
            product = some_product(source, 4)
            names = [word for word in product_text(product).split(" ") if word in ("a", "zebra")]
            for known in (["a"], ["zebra"], []):
                turns = {name: TURNS[name] for name in known}
                unknown = [name for name in names if name not in known]
                if unknown:
                    self.check_unknown(product, unknown[0], turns)
                else:
                    self.assertEqual(evaluate(product, turns), evaluate(product, TURNS))

    def test_the_dict_stays(self):
        turns = dict(TURNS)
        evaluate(read_product("a * b ' * zebra"), turns)
        self.assertEqual(turns, TURNS)
        self.assertEqual(list(turns), list(TURNS))

    def test_keywords(self):
        product = read_product("a * b")
        self.assertEqual(evaluate(turns=TURNS, product=product), TURNS["a"] * TURNS["b"])


if __name__ == "__main__":
    unittest.main()
