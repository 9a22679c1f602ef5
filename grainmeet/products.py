"""Products of named turns and of turns of fours: nested tuples, their texts and their turns."""

from grainmeet.errors import ParseError, UnknownName
from grainmeet.fours import Four, four_text
from grainmeet.turns import turn_with

MOST_WORDS = 40
LONGEST_NAME = 8


def is_name(text):
    """Whether a string is a name: 1 to 8 lowercase letters."""
    return len(text) <= LONGEST_NAME and text.isascii() and text.isalpha() and text.islower()


def read_product(text):
    """The product with a text."""
    words = text.split(" ")
    if len(words) > MOST_WORDS:
        raise ParseError(MOST_WORDS)
    product, end = product_from(words, 0)
    if end < len(words):
        raise ParseError(end)
    return product


def product_from(words, start):
    """The product that begins at an index, and the index behind it."""
    product, at = factor_from(words, start)
    while word_at(words, at) == "*":
        factor, at = factor_from(words, at + 1)
        product = ("times", product, factor)
    return product, at


def factor_from(words, start):
    """The factor that begins at an index, with all signs of inverses behind it, and the index behind them."""
    factor, at = operand_from(words, start)
    while word_at(words, at) == "'":
        factor, at = ("back", factor), at + 1
    return factor, at


def operand_from(words, start):
    """The name, four or product in brackets that begins at an index, and the index behind it."""
    word = word_at(words, start)
    if word == "(":
        product, end = product_from(words, start + 1)
        if word_at(words, end) != ")":
            raise ParseError(end)
        return product, end + 1
    if is_name(word):
        return ("name", word), start + 1
    return ("four", halves_in(word, start)), start + 1


def word_at(words, at):
    """The word at an index, or the empty word behind the last one."""
    return words[at] if at < len(words) else ""


def halves_in(word, at):
    """The halves of the four that is not zero in a word in square brackets."""
    if not word.startswith("[") or not word.endswith("]"):
        raise ParseError(at)
    try:
        four = Four.read(word[1:-1])
    except ParseError:
        raise ParseError(at) from None
    if not four:
        raise ParseError(at)
    return four.halves


def product_text(product):
    """The text of a product, with as few brackets as possible."""
    kind = product[0]
    if kind == "name":
        return product[1]
    if kind == "four":
        return f"[{four_text(product[1])}]"
    if kind == "back":
        return f"{factor_text(product[1])} '"
    return f"{product_text(product[1])} * {factor_text(product[2])}"


def factor_text(product):
    """The text of a product where only a single factor can stand."""
    if product[0] == "times":
        return f"( {product_text(product)} )"
    return product_text(product)


def evaluate(product, turns):
    """The turn that a product tells, with a dict of turns by names."""
    kind = product[0]
    if kind == "name":
        return named_turn(product[1], turns)
    if kind == "four":
        return turn_with(product[1])
    if kind == "back":
        return -evaluate(product[1], turns)
    return evaluate(product[1], turns) * evaluate(product[2], turns)


def named_turn(name, turns):
    """The turn with a name."""
    if name not in turns:
        raise UnknownName(name)
    return turns[name]
