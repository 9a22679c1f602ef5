"""Conditions on whole points: nested tuples, their texts, and what they say of all points at once."""

from grainmeet.errors import CapacityExceeded, ParseError, UnknownName
from grainmeet.grids import Grid, shared
from grainmeet.numbers import common
from grainmeet.products import is_name, word_at

MOST_NAMES = 4
MOST_WORDS = 60
NO_NAMES = ("and", "or", "not")


def names_in(condition):
    """The list of the names in a condition, in the order in which they occur first."""
    if condition[0] == "in":
        return [condition[1]]
    names = []
    for inner in condition[1:]:
        for name in names_in(inner):
            if name not in names:
                names.append(name)
    return names


def known_names(condition, grains):
    """The list of the names in a condition, which must be names of grains and not too many."""
    names = names_in(condition)
    for name in names:
        if name not in grains:
            raise UnknownName(name)
    if len(names) > MOST_NAMES:
        raise CapacityExceeded(MOST_NAMES)
    return names


def holds(condition, grains, point):
    """Whether a condition is true of a whole point, with a dict of grains by names."""
    names = known_names(condition, grains)
    return is_true(condition, [name for name in names if point in grains[name]])


def is_true(condition, inside):
    """Whether a condition is true of the points that belong to just the grains with the names inside."""
    kind = condition[0]
    if kind == "in":
        return condition[1] in inside
    if kind == "not":
        return not is_true(condition[1], inside)
    if kind == "and":
        return is_true(condition[1], inside) and is_true(condition[2], inside)
    return is_true(condition[1], inside) or is_true(condition[2], inside)


def fraction(condition, grains):
    """The fraction of whole points of which a condition is true: a pair of integers in lowest terms."""
    chosen = [grains[name] for name in known_names(condition, grains)]
    # One in so many whole points belongs to all grains; the points of each region are a multiple of these.
    total = shared(*chosen).one_in
    many = sum([amount_in(grid, outside, total) for grid, outside in true_regions(condition, grains)])
    divisor = common(many, total)
    return many // divisor, total // divisor


def true_regions(condition, grains):
    """The list of the regions of which a condition is true: pairs of the grid inside and the grains outside."""
    regions = all_regions(known_names(condition, grains), grains)
    return [(grid, outside) for inside, grid, outside in regions if is_true(condition, inside)]


def all_regions(names, grains):
    """The list of triples of the names inside a region, the grid of their grains, and the grains outside."""
    regions = [([], Grid.whole(), [])]
    for name in names:
        grain = grains[name]
        inner = [(inside + [name], grid.narrowed(grain), outside) for inside, grid, outside in regions]
        outer = [(inside, grid, outside + [grain]) for inside, grid, outside in regions]
        regions = inner + outer
    return regions


def amount_in(grid, outside, total):
    """How many of each total of whole points belong to a grid and to no grain outside."""
    if not outside:
        return total // grid.one_in
    first, rest = outside[0], outside[1:]
    return amount_in(grid, rest, total) - amount_in(grid.narrowed(first), rest, total)


def same(one, other, grains):
    """Whether two conditions are true of the same whole points."""
    return fraction(difference(one, other), grains) == (0, 1)


def difference(one, other):
    """The condition that just one of two conditions is true."""
    return ("or", ("and", one, ("not", other)), ("and", ("not", one), other))


def witness(one, other, grains):
    """The first point of which just one of two conditions is true, or None if there is none."""
    # A search for points of an empty region would go through all points of its grid in vain.
    regions = [region for region in true_regions(difference(one, other), grains) if not is_empty(region)]
    if not regions:
        return None
    bound = 1
    found = points_within(regions, bound)
    while not found:
        bound = 2 * bound
        found = points_within(regions, bound)
    return min(found, key=order_of)


def is_empty(region):
    """Whether no point belongs to a region."""
    grid, outside = region
    total = grid
    for grain in outside:
        total = total.narrowed(grain)
    return amount_in(grid, outside, total.one_in) == 0


def points_within(regions, bound):
    """The list of the points of some regions whose coordinates are from -bound to bound."""
    found = []
    for grid, outside in regions:
        for point in grid.points(bound):
            if not any([point in grain for grain in outside]):
                found.append(point)
    return found


def order_of(point):
    """What puts points into their order: the greatest absolute value of their coordinates, then themselves."""
    return max([abs(coordinate) for coordinate in point]), point


def read_condition(text):
    """The condition with a text."""
    words = text.split(" ")
    if len(words) > MOST_WORDS:
        raise ParseError(MOST_WORDS)
    condition, end = choice_from(words, 0)
    if end < len(words):
        raise ParseError(end)
    return condition


def choice_from(words, start):
    """The condition that begins at an index, with each `or` behind it, and the index behind them."""
    condition, at = both_from(words, start)
    while word_at(words, at) == "or":
        other, at = both_from(words, at + 1)
        condition = ("or", condition, other)
    return condition, at


def both_from(words, start):
    """The condition that begins at an index, with each `and` behind it, and the index behind them."""
    condition, at = single_from(words, start)
    while word_at(words, at) == "and":
        other, at = single_from(words, at + 1)
        condition = ("and", condition, other)
    return condition, at


def single_from(words, start):
    """The name, `not` or condition in brackets that begins at an index, and the index behind it."""
    word = word_at(words, start)
    if word == "not":
        condition, end = single_from(words, start + 1)
        return ("not", condition), end
    if word == "(":
        condition, end = choice_from(words, start + 1)
        if word_at(words, end) != ")":
            raise ParseError(end)
        return condition, end + 1
    if not is_name(word) or word in NO_NAMES:
        raise ParseError(start)
    return ("in", word), start + 1


def condition_text(condition):
    """The text of a condition, with as few brackets as possible."""
    kind = condition[0]
    if kind == "in":
        return condition[1]
    if kind == "not":
        inner = bracketed(condition[1], ("and", "or"))
        return f"not {inner}"
    if kind == "and":
        left, right = bracketed(condition[1], ("or",)), bracketed(condition[2], ("and", "or"))
        return f"{left} and {right}"
    left, right = condition_text(condition[1]), bracketed(condition[2], ("or",))
    return f"{left} or {right}"


def bracketed(condition, kinds):
    """The text of a condition, with brackets if it is of one of some kinds."""
    if condition[0] in kinds:
        return f"( {condition_text(condition)} )"
    return condition_text(condition)
