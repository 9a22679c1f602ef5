"""Tables of the grains of a block."""

from grainmeet.numbers import integer_text


def table(block):
    """A text with a line for each grain, in ascending order of names."""
    grains = block.grains()
    marks = block.marks()
    return "".join([line_of(name, grains[name], marks) for name in grains])


def line_of(name, grain, marks):
    """The line of a grain: its name, its spread, how many marked points belong to it, and whether it is turned."""
    many = len([point for point in marks if point in grain])
    kind = "whole" if grain.spread == 1 else "turned"
    return f"{name:<8} {integer_text(grain.spread):>8} {many:>3} {kind}\n"
