"""Conditions: their names and their texts, read and written."""

import itertools
import random
import unittest

from grainmeet.conditions import condition_text, names_in, read_condition
from grainmeet.errors import ParseError
from samples import all_conditions, some_condition

NAMES = ("a", "b", "in", "zebra", "nota", "abcdefgh", "c")
TEXTS = {
    "a": ("in", "a"),
    "in": ("in", "in"),
    "abcdefgh": ("in", "abcdefgh"),
    "not a": ("not", ("in", "a")),
    "not not a": ("not", ("not", ("in", "a"))),
    "a and b": ("and", ("in", "a"), ("in", "b")),
    "a or b": ("or", ("in", "a"), ("in", "b")),
    "a and b and c": ("and", ("and", ("in", "a"), ("in", "b")), ("in", "c")),
    "a and ( b and c )": ("and", ("in", "a"), ("and", ("in", "b"), ("in", "c"))),
    "a or b or c": ("or", ("or", ("in", "a"), ("in", "b")), ("in", "c")),
    "a or ( b or c )": ("or", ("in", "a"), ("or", ("in", "b"), ("in", "c"))),
    "a or b and c": ("or", ("in", "a"), ("and", ("in", "b"), ("in", "c"))),
    "a and b or c": ("or", ("and", ("in", "a"), ("in", "b")), ("in", "c")),
    "( a or b ) and c": ("and", ("or", ("in", "a"), ("in", "b")), ("in", "c")),
    "a and ( b or c )": ("and", ("in", "a"), ("or", ("in", "b"), ("in", "c"))),
    "not ( a and b )": ("not", ("and", ("in", "a"), ("in", "b"))),
    "not ( a or b )": ("not", ("or", ("in", "a"), ("in", "b"))),
    "not a and b": ("and", ("not", ("in", "a")), ("in", "b")),
    "a and not b or not in": ("or", ("and", ("in", "a"), ("not", ("in", "b"))), ("not", ("in", "in"))),
}
BRACKETED = {
    "( a )": "a", "( ( a ) )": "a", "( a and b ) or c": "a and b or c", "a or ( b and c )": "a or b and c",
    "( not a ) and b": "not a and b", "not ( a )": "not a", "not ( not a )": "not not a", "( a or b )": "a or b",
    "( a or b ) or c": "a or b or c", "( a and b ) and c": "a and b and c",
}
REFUSED = {
    "": 0, " ": 0, "a ": 1, " a": 0, "a  and b": 1, "and": 0, "or": 0, "not": 1, "not ": 1, "(": 1, ")": 0, "( )": 1,
    "a b": 1, "a not": 1, "a not b": 1, "a and": 2, "a or": 2, "a and or b": 2, "a and and": 2, "a or and": 2,
    "not and": 1, "not or a": 1, "not )": 1, "( a": 2, "( a and": 3, "( a or b": 4, "a )": 1, "( a ) )": 3, "( a b": 2,
    "( a ) b": 3, "( a ) (": 3, "a ( b )": 1, "a and )": 2, "A": 0, "a1": 0, "abcdefghi": 0, "a and abcdefghi": 2,
    "a\n": 0, "(a)": 0, "a,b": 0, "not(a)": 0, "a & b": 1, "a and not": 3, "( ( a )": 4, "*": 0, "'": 0, "a '": 1,
    "[1]": 0, "a / b": 1, "a and  b": 2, "not  a": 1, "( a )  or b": 3,
}


def words_of(condition):
    """The words of a condition with brackets about each part that is no name."""
    if condition[0] == "in":
        return [condition[1]]
    if condition[0] == "not":
        return ["not", *bracketed(condition[1])]
    return [*bracketed(condition[1]), condition[0], *bracketed(condition[2])]


def bracketed(condition):
    words = words_of(condition)
    return words if len(words) == 1 else ["(", *words, ")"]


def is_operand(word):
    return 1 <= len(word) <= 8 and set(word) <= set("abcdefghijklmnopqrstuvwxyz") and word not in ("and", "or", "not")


def first_wrong(words):
    """The index of the first word that cannot follow, the number of words if they end too early, or None."""
    depth = 0
    behind = False
    for at, word in enumerate(words):
        if behind:
            if word == ")" and depth > 0:
                depth -= 1
            elif word in ("and", "or"):
                behind = False
            else:
                return at
        elif word == "(":
            depth += 1
        elif is_operand(word):
            behind = True
        elif word != "not":
            return at
    return None if behind and depth == 0 else len(words)


class Texts(unittest.TestCase):
    def check_refused(self, text, at):
        with self.assertRaises(ParseError, msg=repr(text)) as caught:
            read_condition(text)
        self.assertEqual(caught.exception.at, at, repr(text))

    def check_read(self, words):
        told = first_wrong(words)
        text = " ".join(words)
        if len(words) > 60:
            self.check_refused(text, 60)
        elif told is None:
            condition = read_condition(text)
            self.assertEqual(read_condition(condition_text(condition)), condition)
        else:
            self.check_refused(text, told)

    def check_fewest_brackets(self, condition):
        """The text is read back, and without any one pair of its brackets it is another condition."""
        text = condition_text(condition)
        self.assertEqual(read_condition(text), condition)
        words = text.split(" ")
        opened = []
        for at, word in enumerate(words):
            if word == "(":
                opened.append(at)
            elif word == ")":
                start = opened.pop()
                fewer = words[:start] + words[start + 1:at] + words[at + 1:]
                self.assertNotEqual(read_condition(" ".join(fewer)), condition)

    def test_table(self):
        for text, condition in TEXTS.items():
            self.assertEqual(read_condition(text), condition)
            self.assertEqual(condition_text(condition), text)

    def test_brackets_that_are_not_needed(self):
        for text, fewest in BRACKETED.items():
            self.assertEqual(condition_text(read_condition(text)), fewest)

    def test_all_conditions_of_three_levels(self):
        for condition in all_conditions(3, ("a", "in")):
            self.check_fewest_brackets(condition)
            self.assertEqual(read_condition(" ".join(words_of(condition))), condition)

    def test_some_deeper_conditions(self):
        source = random.Random(151)
        for time in range(1000):
            condition = some_condition(source, 5, NAMES)
            if len(words_of(condition)) <= 60:
                self.check_fewest_brackets(condition)
                self.assertEqual(read_condition(" ".join(words_of(condition))), condition)

    def test_names_of_all_lengths(self):
        for many in range(1, 9):
            name = "abcdefghij"[:many]
            self.assertEqual(read_condition(f"not {name}"), ("not", ("in", name)))
            self.assertEqual(condition_text(("not", ("in", name))), f"not {name}")
        for name in ("ina", "ands", "orr", "nots", "no", "an", "o"):
            self.assertEqual(read_condition(name), ("in", name))

    def test_kinds_of_values(self):
        condition = read_condition("a and not b")
        self.assertEqual([type(condition), type(condition[2]), type(condition[2][1])], [tuple, tuple, tuple])

    def test_refused_texts(self):
        for text, at in REFUSED.items():
            self.assertEqual(first_wrong(text.split(" ")), at, repr(text))
            self.check_refused(text, at)

    def test_all_short_texts(self):
        for many in range(1, 6):
            for words in itertools.product(("a", "and", "or", "not", "(", ")", ""), repeat=many):
                self.check_read(list(words))

    def test_changed_texts(self):
        source = random.Random(152)
        others = ["a", "in", "and", "or", "not", "(", ")", "", "B", "an8", "abcdefghi", "in,"]
        for time in range(4000):
            words = condition_text(some_condition(source, 4, NAMES)).split(" ")
            at = source.randrange(len(words) + 1)
            kept = source.choice((at, at + 1))
            added = source.choice(([], [source.choice(others)]))
            self.check_read(words[:at] + added + words[kept:])

    def test_number_of_words(self):
        for many in range(25, 36):
            self.check_read(" and ".join(["a"] * many).split(" "))
        for words in (["not"] * 59 + ["a"], ["not"] * 60 + ["a"], ["not"] * 60, ["not"] * 61, ["("] * 60, ["("] * 61,
                      ["("] * 29 + ["a"] + [")"] * 29, ["("] * 30 + ["a"] + [")"] * 30, [""] * 60, [""] * 61,
                      ["a", "or"] * 30, ["a", "or"] * 31, ["and"] * 60, ["and"] * 61, ["a", "b"] * 40):
            self.check_read(words)
        self.check_refused("and " * 80 + "a", 60)

    def test_long_conditions_are_written(self):
        condition = ("in", "a")
        for time in range(80):
            condition = ("or", condition, ("not", ("in", "b")))
        self.assertEqual(condition_text(condition), "a" + " or not b" * 80)

    def test_keywords(self):
        self.assertEqual(read_condition(text="not a"), ("not", ("in", "a")))
        self.assertEqual(condition_text(condition=("not", ("in", "a"))), "not a")


class Names(unittest.TestCase):
    def test_table(self):
        told = {"a": ["a"], "b and a": ["b", "a"], "a or a": ["a"], "not ( c or b ) and ( a or c )": ["c", "b", "a"],
                "a or b or a or c": ["a", "b", "c"], "in and not in": ["in"],
                "e or d or c or b or a or e": ["e", "d", "c", "b", "a"]}
        for text, names in told.items():
            self.assertEqual(names_in(read_condition(text)), names)

    def test_order_of_first_occurrence(self):
        source = random.Random(153)
        for time in range(500):
            condition = some_condition(source, 5, NAMES)
            words = [word for word in words_of(condition) if is_operand(word)]
            self.assertEqual(names_in(condition), sorted(set(words), key=words.index))

    def test_a_new_list_each_time(self):
        condition = ("in", "a")
        names_in(condition).append("b")
        self.assertEqual(names_in(condition), ["a"])

    def test_keyword(self):
        self.assertEqual(names_in(condition=("in", "a")), ["a"])


if __name__ == "__main__":
    unittest.main()
