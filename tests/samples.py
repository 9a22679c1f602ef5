"""What several tests share: samples, and the document's definitions computed with fractions."""

import functools
import itertools
import random
from fractions import Fraction
from math import gcd, lcm

from grainmeet.errors import GrainError, Missing, NothingLeft
from grainmeet.fours import Four
from grainmeet.grains import Grain
from grainmeet.turns import Turn
from grainmeet.ways import between, is_midst

AXES = ((1, 0, 0), (0, 1, 0), (0, 0, 1))


def is_four(halves):
    return len({half % 2 for half in halves}) == 1


def small_fours(bound):
    """All fours whose halves are from -bound to bound."""
    span = range(-bound, bound + 1)
    return [Four(*halves) for halves in itertools.product(span, repeat=4) if is_four(halves)]


def some_fours(seed, many, most=10 ** 9 - 3):
    """Fours with halves of all lengths, even ones and odd ones."""
    source = random.Random(seed)
    found = []
    while len(found) < many:
        bound = source.choice((1, 3, 10, 1000, most // 2))
        rest = source.randint(0, 1)
        found.append(Four(*[2 * source.randint(-bound, bound) + rest for place in range(4)]))
    return found


def some_turns(seed, many, most=10 ** 9 - 3):
    """Turns of fours with halves of all lengths."""
    return [Turn(four) for four in some_fours(seed, 2 * many + 10, most) if four][:many]


def some_grains(seed, many, most=10 ** 9 - 3):
    """Grains of such turns."""
    return [Grain(turn) for turn in some_turns(seed, many, most)]


def some_points(seed, many, most=30):
    """Points with coordinates of both signs, the origin among them."""
    source = random.Random(seed)
    found = [tuple([source.randint(-most, most) for place in range(3)]) for time in range(many - 1)]
    return [(0, 0, 0), *found]


def carried(four, point):
    """The point that the turn of a four makes of a point: three fractions, by the product of the document."""
    x, y, z = point
    product = four * Four(0, 2 * x, 2 * y, 2 * z) * four.mirrored()
    assert product.halves[0] == 0
    return tuple([Fraction(half, 2 * four.size) for half in product.halves[1:]])


def table_of(four):
    """The rows of the table of the turn of a four, as fractions."""
    return list(zip(*[carried(four, axis) for axis in AXES]))


def applied(table, point):
    """The point that a table makes of a point."""
    return tuple([sum(entry * element for entry, element in zip(row, point)) for row in table])


def fractions_of(image):
    """The fractions that a pair of a tuple and a divisor tells."""
    return tuple([Fraction(element, image[1]) for element in image[0]])


def belongs(four, point):
    """Whether a whole point belongs to the grain of the turn of a four."""
    return all(part.denominator == 1 for part in carried(four.mirrored(), point))


def primes_in(number):
    """The list of the primes of a positive number, each as often as it divides."""
    found = []
    prime = 2
    while number > 1:
        if prime * prime > number:
            prime = number
        if number % prime == 0:
            number //= prime
            found.append(prime)
        else:
            prime += 1
    return found


def box(bound):
    """All points with coordinates from -bound to bound, in ascending order."""
    return list(itertools.product(range(-bound, bound + 1), repeat=3))


LEAVES = (("name", "a"), ("name", "zebra"), ("four", (2, 4, 0, 0)), ("four", (1, -3, 1, 1)), ("four", (-4, 0, 0, 0)))


def all_products(levels):
    """All products of at most so many levels over few leaves."""
    found = list(LEAVES[:3])
    for level in range(levels - 1):
        longer = [("back", one) for one in found] + [("times", one, other) for one in found for other in found]
        found = list(LEAVES[:3]) + longer
    return found


def some_product(source, levels):
    """A product of at most so many levels over all leaves."""
    kind = source.choice(("leaf", "back", "times", "times")) if levels > 1 else "leaf"
    if kind == "leaf":
        return source.choice(LEAVES)
    many = 1 if kind == "back" else 2
    return (kind, *[some_product(source, levels - 1) for place in range(many)])


def all_conditions(levels, names):
    """All conditions of at most so many levels over some names."""
    leaves = [("in", name) for name in names]
    found = leaves
    for level in range(levels - 1):
        pairs = list(itertools.product(found, repeat=2))
        longer = [("not", one) for one in found]
        longer += [("and", *pair) for pair in pairs] + [("or", *pair) for pair in pairs]
        found = leaves + longer
    return found


def some_condition(source, levels, names):
    """A condition of at most so many levels over some names."""
    kind = source.choice(("in", "not", "and", "or", "and", "or")) if levels > 1 else "in"
    if kind == "in":
        return ("in", source.choice(names))
    many = 1 if kind == "not" else 2
    return (kind, *[some_condition(source, levels - 1, names) for place in range(many)])


def table_spread(one, other):
    """The spread of two fours, by the table of the turn that leads from the one to the other."""
    return spread_of_halves(one.halves, other.halves)


@functools.cache
def spread_of_halves(one, other):
    left, right = [list(zip(*table_of(Four(*halves)))) for halves in (one, other)]
    entries = [sum(a * b for a, b in zip(column, row)) for column in left for row in right]
    return lcm(*[entry.denominator for entry in entries])


LETTERS = "abcdefghijklmnopqrstuvwxyz"


def is_block_name(name):
    return 1 <= len(name) <= 8 and all(letter in LETTERS for letter in name)


class Refused(Exception):
    """What a command should be refused with: the name of the error and its field."""

    def __init__(self, tag, value):
        Exception.__init__(self, tag, value)
        self.told = (tag, value)


class BlockModel:
    """A block by the words of the document: whole copies of its state, and each error in its order."""

    def __init__(self, limit=10000, plain=False):
        self.limit, self.plain = limit, plain
        self.fours, self.marks = {}, []
        self.past, self.future = [], []

    def need(self, *names):
        for name in names:
            if name not in self.fours:
                raise Refused("UnknownName", name)

    def need_room(self, name):
        if not is_block_name(name):
            raise Refused("InvalidName", name)
        if name in self.fours:
            raise Refused("DuplicateName", name)
        if len(self.fours) == 8:
            raise Refused("CapacityExceeded", 8)

    def give(self, name, four):
        others = [other for key, other in self.fours.items() if key != name] + [Four.whole(1)] * self.plain
        if any(table_spread(four, other) > self.limit for other in others):
            raise Refused("TooFar", self.limit)
        self.fours[name] = Grain(Turn(four)).four

    def four_of(self, halves):
        if len(halves) != 4 or not is_four(halves) or not any(halves):
            raise Refused("InvalidFour", halves)
        return Four(*halves)

    def do_put(self, name, halves):
        self.need_room(name)
        self.give(name, self.four_of(halves))

    def do_drop(self, name):
        self.need(name)
        del self.fours[name]

    def do_turn(self, name, halves):
        self.need(name)
        self.give(name, self.four_of(halves) * self.fours[name])

    def do_lean(self, name, number, row):
        self.need(name)
        if number < 1 or number % 2 == 0 or gcd(number, *row) > 1 or sum(u * u for u in row) % number:
            raise Refused("InvalidRing", number)
        self.give(name, self.fours[name] * Grain.of_ring(number, row).four)

    def do_swap(self, one, other):
        self.need(one, other)
        self.fours[one], self.fours[other] = self.fours[other], self.fours[one]

    def do_midst(self, name, *three):
        self.need_room(name)
        self.need(*three)
        self.give(name, midst_of(*[self.fours[one] for one in three]))

    def do_mark(self, point):
        if point in self.marks:
            raise Refused("DuplicateMark", point)
        if len(self.marks) == 12:
            raise Refused("CapacityExceeded", 12)
        self.marks.append(point)

    def do_unmark(self, point):
        if point not in self.marks:
            raise Refused("UnknownMark", point)
        self.marks.remove(point)

    def state(self):
        return dict(self.fours), list(self.marks)

    def step(self, *commands):
        """Applies commands as one step; returns None, or what they are refused with."""
        before = self.state()
        lengths = {"put": 3, "drop": 2, "turn": 3, "lean": 4, "swap": 3, "midst": 5, "mark": 2, "unmark": 2}
        for command in commands:
            if not command or lengths.get(command[0]) != len(command):
                return "InvalidCommand", command[0] if command else None
        try:
            for kind, *values in commands:
                getattr(self, "do_" + kind)(*values)
        except Refused as refused:
            self.fours, self.marks = before
            return refused.told
        self.past.append((before, commands))
        self.future = []
        return None

    def undo(self):
        if not self.past:
            return "NothingLeft", None
        before, commands = self.past.pop()
        self.future.append((self.state(), commands))
        self.fours, self.marks = before
        return None

    def redo(self):
        if not self.future:
            return "NothingLeft", None
        after, commands = self.future.pop()
        self.past.append((self.state(), commands))
        self.fours, self.marks = after
        return None

    def widest(self):
        fours = list(self.fours.values()) + [Four.whole(1)] * self.plain
        return max([1] + [table_spread(*pair) for pair in itertools.combinations(fours, 2)])

    def commands(self):
        return [command for before, commands in self.past for command in commands]

    def told(self):
        """All that the block should tell of itself."""
        return {
            "fours": sorted((name, four.text()) for name, four in self.fours.items()), "marks": self.marks,
            "limit": self.limit, "widest": self.widest(), "history": (len(self.past), len(self.future)),
            "commands": self.commands(), "length": len(self.fours), "busy": False,
        }


def midst_of(one, two, three):
    """The four of the grain between any two of three, found among the grains between the first two."""
    first, second = Grain(Turn(one)), Grain(Turn(two))
    return next(grain.four for grain in between(first, second) if is_midst(first, second, Grain(Turn(three)), grain))


def told_by(block):
    """All that a block tells of itself."""
    return {
        "fours": [(name, grain.four.text()) for name, grain in block.grains().items()], "marks": block.marks(),
        "limit": block.limit, "widest": block.widest(), "history": block.history(), "commands": block.commands(),
        "length": len(block), "busy": block.busy,
    }


def raised_by(call, *values):
    """The tag and the field of the error that a call raises, or None."""
    try:
        call(*values)
    except (GrainError, Missing, NothingLeft) as error:
        fields = [value for name, value in vars(error).items() if name != "tag"]
        return error.tag, fields[0] if fields else None
    return None


POINTS = tuple(itertools.product((0, 1, -5), repeat=3))
HALVES = (
    (2, 0, 0, 0), (4, 2, 0, 0), (4, -2, 0, 0), (2, 2, 2, 0), (2, 2, 0, 2), (3, 1, 1, 1), (0, 4, 2, 0), (6, 4, 0, 0),
    (-4, 0, 2, 0), (2, 2, 0, 0), (1, 1, 1, 1), (4, 2, 2, 2), (0, 0, 0, 0), (1, 2, 0, 0), (2, 4, 6), (),
)
RINGS = (
    (1, (0, 0, 0)), (3, (1, 1, 1)), (3, (-1, 1, 4)), (5, (0, 3, 4)), (5, (10, -3, 1)), (7, (1, 2, 3)), (9, (1, 2, 2)),
    (3, (1, 1, 0)), (3, (3, 0, 0)), (4, (0, 0, 0)), (0, (0, 0, 0)), (-3, (1, 1, 1)), (1, (10 ** 29, -7, 5)),
)
BLOCK_NAMES = ("a", "b", "c", "ann", "bob", "zzzzzzzz", "in", "d", "e", "f")


def some_command(source):
    """A command with names, fours, rings and points of few kinds, wrong ones among them."""
    kind = source.choice(("put", "put", "put", "drop", "turn", "lean", "swap", "midst", "mark", "mark", "unmark"))
    name, *three = [source.choice(BLOCK_NAMES) for place in range(4)]
    if source.randint(0, 19) == 0:
        name = source.choice(("", "A", "abcdefghi", "a b", "a1"))
    values = {
        "put": (name, source.choice(HALVES)), "drop": (name,), "turn": (name, source.choice(HALVES)),
        "lean": (name, *source.choice(RINGS)), "swap": (name, three[0]), "midst": (name, *three),
        "mark": (source.choice(POINTS),), "unmark": (source.choice(POINTS),),
    }
    return (kind, *values[kind])


def some_tuple(source):
    """A command, or sometimes a tuple that is none."""
    command = some_command(source)
    if source.randint(0, 24):
        return command
    return source.choice(((), command[:-1], command + (1,), ("place", *command[1:]), ("", "a"), ("PUT", "a", (2, 0, 0, 0))))


# The kinds of the words behind the first one in the text of each command.
KINDS = {
    "put": "name four", "drop": "name", "turn": "name four", "lean": "name int int int int", "swap": "name name",
    "midst": "name name name name", "mark": "int int int", "unmark": "int int int",
}
WORDS = ("", "a", "ann", "A", "put", "drop", "mark", "1", "-1", "0", "-0", "007", "+2", "2+i", "i+2", "1i", "1/2", "block")


def model_text(command):
    """The text of a command by the words of the document."""
    words = []
    for value in command[1:]:
        if isinstance(value, str):
            words.append(value)
        elif isinstance(value, int):
            words.append(str(value))
        elif command[0] in ("put", "turn"):
            words.append(Four(*value).text())
        else:
            words.extend(map(str, value))
    return " ".join([command[0], *words])


def changed(source, text, more):
    """A text with one change: a piece between two spaces removed, repeated, moved, joined or replaced."""
    words = text.split(" ")
    at = source.randrange(len(words))
    kind = source.choice(("remove", "repeat", "replace", "insert", "move", "join", "sign", "cut"))
    if kind == "remove":
        del words[at]
    elif kind == "repeat":
        words.insert(at, words[at])
    elif kind == "replace":
        words[at] = source.choice(more)
    elif kind == "insert":
        words.insert(source.randint(0, len(words)), source.choice(more))
    elif kind == "move":
        words.insert(source.randrange(len(words)), words.pop(at))
    elif kind == "join":
        words[at:at + 2] = ["".join(words[at:at + 2])]
    elif kind == "sign":
        words[at] = source.choice("+-0") + words[at]
    else:
        words[at] = words[at][:source.randint(0, len(words[at]))]
    return " ".join(words)
