"""Grids: the whole points that belong to all of some grains."""

from grainmeet.numbers import digits_of
from grainmeet.rows import dotted, moved


class Grid:
    """A grid, which never changes. It is made from three rows, the second with a 0 in front, the third with two."""

    def __init__(self, rows):
        self.steps = in_steps(rows)

    @staticmethod
    def whole():
        """The whole grid."""
        return Grid([(1, 0, 0), (0, 1, 0), (0, 0, 1)])

    @property
    def one_in(self):
        """One in how many whole points belongs to the grid."""
        first, second, third = self.steps
        return first[0] * second[1] * third[2]

    def basis(self):
        """The list of the rows of the basis in steps."""
        return list(self.steps)

    def within(self, other):
        """Whether all points belong to another grid."""
        return all([row in other for row in self.steps])

    def narrowed(self, grain):
        """The grid of the points that belong to a grain, too."""
        number, row = grain.ring()
        # Before each row stands its product with the row of the ring, up to multiples of the number.
        key = (number, 0, 0, 0)
        found = []
        for step in self.steps[::-1]:
            key, level = levelled(key, (dotted(row, step), *step))
            found.append(level[1:])
        return Grid(found[::-1])

    def points(self, bound):
        """Yields the points whose coordinates are from -bound to bound, in ascending order."""
        first, second, third = self.steps
        for x in range(lowest(0, first[0], bound), bound + 1, first[0]):
            start = moved((0, 0, 0), first, x // first[0])
            for y in range(lowest(start[1], second[1], bound), bound + 1, second[1]):
                place = moved(start, second, (y - start[1]) // second[1])
                for z in range(lowest(place[2], third[2], bound), bound + 1, third[2]):
                    yield (x, y, z)

    def __contains__(self, point):
        rest = point
        for at, row in enumerate(self.steps):
            rest = lowered(rest, row, at)
        return not any(rest)

    def __eq__(self, other):
        return isinstance(other, Grid) and self.steps == other.steps

    def __repr__(self):
        return f"Grid(one in {digits_of(self.one_in)})"


def shared(*grains):
    """The grid of the points that belong to all of some grains."""
    grid = Grid.whole()
    for grain in grains:
        grid = grid.narrowed(grain)
    return grid


def in_steps(rows):
    """The basis in steps with the same sums and differences as three rows with 0, 1 and 2 zeros in front."""
    first, second, third = [upright(row, at) for at, row in enumerate(rows)]
    second = lowered(second, third, 2)
    first = lowered(lowered(first, second, 1), third, 2)
    return (first, second, third)


def upright(row, at):
    """A row or its negative, whichever has a positive element at a place."""
    sign = 1 if row[at] > 0 else -1
    return tuple([sign * element for element in row])


def lowered(row, step, at):
    """A row less so many times another one that its element at a place is from 0 to the other's, exclusive."""
    return moved(row, step, -(row[at] // step[at]))


def levelled(one, other):
    """Two rows with the same sums and differences as two others, the second one with a 0 in front."""
    key, level = one, other
    while level[0]:
        key, level = level, moved(key, level, -(key[0] // level[0]))
    return key, level


def lowest(start, step, bound):
    """The least number from -bound upwards that differs from another one by a multiple of a step."""
    return (start + bound) % step - bound
