"""Texts of commands, and pages of blocks."""

from grainmeet.blocks import Block, PlainBlock
from grainmeet.errors import GrainError, InvalidLimit, Missing, ParseError
from grainmeet.fours import Four, four_text
from grainmeet.numbers import are_digits, integer_text, number_with

# The kinds of values behind the first word of each command.
FORMS = {
    "put": ("name", "four"),
    "drop": ("name",),
    "turn": ("name", "four"),
    "lean": ("name", "number", "triple"),
    "swap": ("name", "name"),
    "midst": ("name", "name", "name", "name"),
    "mark": ("triple",),
    "unmark": ("triple",),
}

# How many words a value of each kind has.
WIDTHS = {"name": 1, "four": 1, "number": 1, "triple": 3}


def command_text(command):
    """The text of a command."""
    kinds = FORMS[command[0]]
    return " ".join([command[0]] + [value_text(kind, value) for kind, value in zip(kinds, command[1:])])


def value_text(kind, value):
    """The text of a value of a kind."""
    if kind == "four":
        return four_text(value)
    if kind == "number":
        return integer_text(value)
    if kind == "triple":
        return triple_text(value)
    return value


def triple_text(triple):
    """The text of a point or a row."""
    return " ".join([integer_text(number) for number in triple])


def read_command(text):
    """The command with a text."""
    words = text.split(" ")
    kinds = command_kinds(words[0])
    if kinds is None or not has_width(words, kinds):
        raise ParseError(0)
    values = values_told(words, kinds)
    return (words[0], *values)


def command_kinds(word):
    """The kinds of values behind the first word of a command, or None if no command begins so."""
    return FORMS.get(word)


def has_width(words, kinds):
    """Whether the words of a line are as many as its first one and values of some kinds need."""
    return len(words) == 1 + sum([WIDTHS[kind] for kind in kinds])


def values_told(words, kinds):
    """The list of the values of some kinds that the words of a line tell behind its first one."""
    values = []
    at = 1
    for kind in kinds:
        end = at + WIDTHS[kind]
        values.append(value_told(kind, words[at:end]))
        at = end
    return values


def value_told(kind, words):
    """The value of a kind that some words tell."""
    if kind == "four":
        return Four.read(words[0]).halves
    if kind == "number":
        return integer_told(words[0])
    if kind == "triple":
        return tuple([integer_told(word) for word in words])
    return words[0]


def integer_told(word):
    """The integer that a word tells, without leading zeros."""
    digits = word.removeprefix("-")
    if not are_digits(digits):
        raise ParseError(0)
    number = number_with(digits) if digits == word else -number_with(digits)
    # Of all words for a number, only its very text has the right form.
    if integer_text(number) != word:
        raise ParseError(0)
    return number


def format_block(block):
    """The page of a block."""
    kind = "plainblock" if isinstance(block, PlainBlock) else "block"
    lines = [f"{kind} {integer_text(block.limit)}"] + [command_text(command) for command in block.commands()]
    return "".join([f"{line}\n" for line in lines])


def read_block(text):
    """The block with a page."""
    pieces = text.split("\n")
    # Behind the last line feed stands nothing, or a line without one.
    lines, rest = pieces[:-1], pieces[-1]
    if not lines:
        raise ParseError(0)
    block = new_block(lines[0])
    for at, line in enumerate(lines[1:], start=1):
        try:
            block.apply(read_command(line))
        except (GrainError, Missing):
            raise ParseError(at) from None
    if rest:
        raise ParseError(len(lines))
    return block


def new_block(line):
    """The empty block that the first line of a page tells."""
    words = line.split(" ")
    if len(words) != 2 or words[0] not in ("block", "plainblock"):
        raise ParseError(0)
    limit = integer_told(words[1])
    try:
        return PlainBlock(limit=limit) if words[0] == "plainblock" else Block(limit=limit)
    except InvalidLimit:
        raise ParseError(0) from None
