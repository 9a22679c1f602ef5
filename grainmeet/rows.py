"""Rows of integers, which are tuples."""

from grainmeet.numbers import common


def dotted(one, other):
    """The sum of the products of the elements of two rows."""
    return sum([left * right for left, right in zip(one, other)])


def moved(row, other, times):
    """A row plus another one taken so many times."""
    return tuple([left + times * right for left, right in zip(row, other)])


def common_of(row):
    """The greatest common divisor of all elements, which is not negative."""
    shared = 0
    for number in row:
        shared = common(shared, number)
    return shared
