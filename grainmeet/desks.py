"""Desks: lines with commands and questions about a block, and their answers."""

from grainmeet.blocks import Block
from grainmeet.conditions import fraction, read_condition, witness
from grainmeet.errors import GrainError, Missing, NothingLeft, ParseError
from grainmeet.numbers import integer_text
from grainmeet.pages import command_kinds, has_width, triple_text, values_told
from grainmeet.products import evaluate, read_product
from grainmeet.ways import way

WHAT = "what"


def listed(names):
    """The text of a list of names."""
    return " ".join(names) or "none"


def undo_line(block):
    """Undoes the last step."""
    block.undo()
    return "ok"


def redo_line(block):
    """Makes the step again that was undone last."""
    block.redo()
    return "ok"


def names_line(block):
    """The names in ascending order."""
    return listed(block.names())


def widest_line(block):
    """The greatest spread of two grains."""
    return integer_text(block.widest())


def share_line(block):
    """One in how many whole points belongs to all grains."""
    return integer_text(block.share())


def limit_line(block):
    """The limit."""
    return integer_text(block.limit)


def four_line(block, name):
    """The text of the four of a grain."""
    return block.grain(name).four.text()


def spread_line(block, one, other):
    """The spread of two grains."""
    return integer_text(block.spread_of(one, other))


def way_line(block, one, other):
    """The texts of the fours of the grains on the way with ascending primes."""
    first = block.grain(one)
    second = block.grain(other)
    return ", ".join([grain.four.text() for grain in way(first, second)])


def homes_line(block, point):
    """The names of the grains to which a point belongs."""
    return listed(block.homes(point))


def point_line(block, name, point):
    """The coordinates of a point in a grain."""
    place = block.grain(name).coordinates(point)
    return "none" if place is None else triple_text(place)


def product_line(block, text):
    """The text of the four of the turn of a product."""
    product = read_product(text)
    grains = block.grains()
    turn = evaluate(product, {name: grains[name].turn for name in grains})
    return turn.four.text()


def fraction_line(block, text):
    """The fraction of points of which a condition is true."""
    above, below = fraction(read_condition(text), block.grains())
    return f"{integer_text(above)}/{integer_text(below)}"


def compare_line(block, text):
    """Whether two conditions are the same, or else their witness."""
    first, mark, second = text.partition(" / ")
    if not mark:
        raise ParseError(0)
    one = read_condition(first)
    other = read_condition(second)
    point = witness(one, other, block.grains())
    return "same" if point is None else triple_text(point)


# The kinds of values behind the first word of each line that is no command and has no text to its end.
QUESTIONS = {
    "undo": (),
    "redo": (),
    "names": (),
    "widest": (),
    "share": (),
    "limit": (),
    "four": ("name",),
    "spread": ("name", "name"),
    "way": ("name", "name"),
    "homes": ("triple",),
    "point": ("name", "triple"),
}
REPLIES = {
    "undo": undo_line,
    "redo": redo_line,
    "names": names_line,
    "widest": widest_line,
    "share": share_line,
    "limit": limit_line,
    "four": four_line,
    "spread": spread_line,
    "way": way_line,
    "homes": homes_line,
    "point": point_line,
}
TEXT_REPLIES = {"product": product_line, "fraction": fraction_line, "compare": compare_line}


class Desk:
    """A desk, which answers lines about its block."""

    def __init__(self, *, block=None):
        # An empty block is false, too, so only None stands for no block.
        self.kept = Block() if block is None else block

    def block(self):
        """The block of the desk."""
        return self.kept

    def ask(self, line):
        """Applies a line and returns its answer."""
        try:
            return answered(self.kept, line)
        except (GrainError, Missing, NothingLeft) as problem:
            return f"error {problem.tag}"


def answered(block, line):
    """The answer to a line about a block."""
    word, gap, text = line.partition(" ")
    if word in TEXT_REPLIES:
        return text_answered(block, word, text) if gap else WHAT
    words = line.split(" ")
    kinds = command_kinds(word)
    if kinds is None:
        kinds = QUESTIONS.get(word)
    if kinds is None or "" in words or not has_width(words, kinds):
        return WHAT
    values = values_told(words, kinds)
    if word in REPLIES:
        reply = REPLIES[word]
        return reply(block, *values)
    block.apply((word, *values))
    return "ok"


def text_answered(block, word, text):
    """The answer to a line with a text to its end."""
    reply = TEXT_REPLIES[word]
    return reply(block, text)
