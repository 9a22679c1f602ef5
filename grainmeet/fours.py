"""Fours: sums a + bi + cj + dk whose parts are four integers, or four halves of odd integers."""

from grainmeet.errors import InvalidFour, InvalidNumber, ParseError
from grainmeet.numbers import are_digits, common, digits_of, is_number, number_with

# The letter of each part, in the order of the parts.
LETTERS = ("", "i", "j", "k")

# The halves of all fours of size 1, in ascending order.
UNITS = (
    (-2, 0, 0, 0),
    (-1, -1, -1, -1), (-1, -1, -1, 1), (-1, -1, 1, -1), (-1, -1, 1, 1),
    (-1, 1, -1, -1), (-1, 1, -1, 1), (-1, 1, 1, -1), (-1, 1, 1, 1),
    (0, -2, 0, 0), (0, 0, -2, 0), (0, 0, 0, -2), (0, 0, 0, 2), (0, 0, 2, 0), (0, 2, 0, 0),
    (1, -1, -1, -1), (1, -1, -1, 1), (1, -1, 1, -1), (1, -1, 1, 1),
    (1, 1, -1, -1), (1, 1, -1, 1), (1, 1, 1, -1), (1, 1, 1, 1),
    (2, 0, 0, 0),
)


class Four:
    """A four, which never changes."""

    def __init__(self, *halves):
        if not are_halves(halves):
            raise InvalidFour(halves)
        self.doubled = halves

    @staticmethod
    def whole(number):
        """The four of an integer."""
        return Four(2 * number, 0, 0, 0)

    @staticmethod
    def units():
        """The list of the fours of size 1, in ascending order of their halves."""
        return [Four(*halves) for halves in UNITS]

    @staticmethod
    def read(text):
        """The four with a text."""
        halves = halves_told(text)
        if not are_halves(halves):
            raise ParseError(0)
        four = Four(*halves)
        # The parts are read leniently; only the very text of the four that they make has the right form.
        if four.text() != text:
            raise ParseError(0)
        return four

    @property
    def halves(self):
        """The tuple of the four parts, each doubled."""
        return self.doubled

    @property
    def size(self):
        """The sum of the squares of the parts."""
        a, b, c, d = self.doubled
        return (a * a + b * b + c * c + d * d) // 4

    def mirrored(self):
        """The four a - bi - cj - dk."""
        a, b, c, d = self.doubled
        return Four(a, -b, -c, -d)

    def content(self):
        """The greatest integer by which the four can be divided; 0 for zero."""
        a, b, c, d = self.doubled
        shared = common(common(a, b), common(c, d))
        # Divided by all that they share, the halves may be even and odd; then they must keep a factor 2.
        if shared and not are_halves([half // shared for half in self.doubled]):
            return shared // 2
        return shared

    def text(self):
        """The text of the four."""
        parts = [part_text(half, letter) for half, letter in zip(self.doubled, LETTERS) if half]
        return "".join(parts).removeprefix("+") or "0"

    def divided(self, number):
        """The four divided by an integer that divides its content."""
        if not is_number(number) or number == 0 or self.content() % number:
            raise InvalidNumber(number)
        a, b, c, d = self.doubled
        return Four(a // number, b // number, c // number, d // number)

    def __add__(self, other):
        a, b, c, d = self.doubled
        e, f, g, h = other.doubled
        return Four(a + e, b + f, c + g, d + h)

    def __sub__(self, other):
        a, b, c, d = self.doubled
        e, f, g, h = other.doubled
        return Four(a - e, b - f, c - g, d - h)

    def __mul__(self, other):
        a, b, c, d = self.doubled
        e, f, g, h = other.doubled
        # Both factors are doubled, and the product should be doubled only once.
        return Four(
            (a * e - b * f - c * g - d * h) // 2,
            (a * f + b * e + c * h - d * g) // 2,
            (a * g - b * h + c * e + d * f) // 2,
            (a * h + b * g - c * f + d * e) // 2,
        )

    def __neg__(self):
        a, b, c, d = self.doubled
        return Four(-a, -b, -c, -d)

    def __bool__(self):
        return any(self.doubled)

    def __eq__(self, other):
        return isinstance(other, Four) and self.doubled == other.doubled

    def __repr__(self):
        return f"Four({self.text()})"


def four_text(halves):
    """The text of the four with these halves."""
    return Four(*halves).text()


def are_halves(values):
    """Whether values are four even or four odd integers."""
    if len(values) != 4 or not all([is_number(value) for value in values]):
        return False
    return sum([value % 2 for value in values]) in (0, 4)


def part_text(half, letter):
    """The text of a part that is not zero, with its sign and its letter."""
    sign = "-" if half < 0 else "+"
    return f"{sign}{amount_text(abs(half), letter)}{letter}"


def amount_text(half, letter):
    """The text of a positive part before its letter."""
    if half % 2:
        return f"{digits_of(half)}/2"
    if half == 2 and letter:
        return ""
    return digits_of(half // 2)


def halves_told(text):
    """The list of the halves that a text tells, with None for a part that cannot be read."""
    halves = [0, 0, 0, 0]
    for term in terms_of(text):
        ending = term[-1:]
        if ending in LETTERS:
            halves[LETTERS.index(ending)] = half_told(term[:-1])
        else:
            halves[0] = half_told(term)
    return halves


def terms_of(text):
    """The list of the pieces of a text, each beginning with its sign."""
    pieces = text.replace("+", " +").replace("-", " -").split(" ")
    return [piece for piece in pieces if piece]


def half_told(amount):
    """Twice the number that a text before a letter tells, or None."""
    digits = amount.removeprefix("+").removeprefix("-")
    sign = -1 if amount.startswith("-") else 1
    if digits == "":
        return 2 * sign
    odd = digits.removesuffix("/2")
    if not are_digits(odd):
        return None
    if odd == digits:
        return 2 * sign * number_with(digits)
    return sign * number_with(odd)
