"""Blocks: named grains and marked points, changed by commands in steps that can be undone and redone."""

from grainmeet.errors import (
    CapacityExceeded, DuplicateMark, DuplicateName, InvalidCommand, InvalidLimit, InvalidName, NothingLeft, TooFar,
    UnknownMark, UnknownName,
)
from grainmeet.grains import Grain, spread
from grainmeet.grids import shared
from grainmeet.numbers import is_number
from grainmeet.products import is_name
from grainmeet.turns import turn_with
from grainmeet.ways import midst

MOST_LIMIT = 1000000


class State:
    """The grains and the marks of a block between two steps. A block changes only copies of its states."""

    def __init__(self, held, marked):
        self.held = dict(held)
        self.marked = list(marked)


def named_grain(state, name):
    """The grain with a name."""
    if name not in state.held:
        raise UnknownName(name)
    return state.held[name]


def check_new_name(state, name):
    """Raises an error unless a grain with this name may be added."""
    if not is_name(name):
        raise InvalidName(name)
    if name in state.held:
        raise DuplicateName(name)
    if len(state.held) >= Block.GRAINS:
        raise CapacityExceeded(Block.GRAINS)


# Each of the functions below carries out a command. It returns the name that has a new grain, or None.


def put_grain(state, name, halves):
    """Adds the grain of the turn of a four."""
    check_new_name(state, name)
    state.held[name] = Grain(turn_with(halves))
    return name


def drop_grain(state, name):
    """Removes a grain."""
    named_grain(state, name)
    del state.held[name]
    return None


def turn_grain(state, name, halves):
    """Replaces a grain by the one that the turn of a four makes of it."""
    grain = named_grain(state, name)
    state.held[name] = grain.turned(turn_with(halves))
    return name


def lean_grain(state, name, number, row):
    """Replaces a grain by the one that has a ring in its coordinates."""
    grain = named_grain(state, name)
    state.held[name] = Grain.of_ring(number, row).turned(grain.turn)
    return name


def swap_grains(state, one, other):
    """Exchanges two grains."""
    first = named_grain(state, one)
    second = named_grain(state, other)
    state.held[one] = second
    state.held[other] = first
    return None


def put_midst(state, name, one, two, three):
    """Adds the midst of three grains."""
    check_new_name(state, name)
    first = named_grain(state, one)
    second = named_grain(state, two)
    third = named_grain(state, three)
    state.held[name] = midst(first, second, third)
    return name


def mark_point(state, point):
    """Marks a point."""
    if point in state.marked:
        raise DuplicateMark(point)
    if len(state.marked) >= Block.MARKS:
        raise CapacityExceeded(Block.MARKS)
    state.marked.append(point)
    return None


def unmark_point(state, point):
    """Removes the mark of a point."""
    if point not in state.marked:
        raise UnknownMark(point)
    state.marked.remove(point)
    return None


ACTIONS = {
    "put": put_grain,
    "drop": drop_grain,
    "turn": turn_grain,
    "lean": lean_grain,
    "swap": swap_grains,
    "midst": put_midst,
    "mark": mark_point,
    "unmark": unmark_point,
}

# How many elements a command has.
LENGTHS = {"put": 3, "drop": 2, "turn": 3, "lean": 4, "swap": 3, "midst": 5, "mark": 2, "unmark": 2}


def check_form(command):
    """Raises an error unless a tuple has the form of a command."""
    if not command:
        raise InvalidCommand(None)
    if LENGTHS.get(command[0]) != len(command):
        raise InvalidCommand(command[0])


def carry_out(state, command):
    """Carries out a command of a valid form; returns the name that has a new grain, or None."""
    action = ACTIONS[command[0]]
    values = command[1:]
    return action(state, *values)


class Block:
    """A block. The spread of any two of its grains is at most its limit."""

    GRAINS = 8
    MARKS = 12

    def __init__(self, *, limit=10000):
        if not is_number(limit) or not 1 <= limit <= MOST_LIMIT:
            raise InvalidLimit(limit)
        self.bound = limit
        self.applying = False
        # The states that the steps lead through, those that were undone included, and the index of the present one.
        self.timeline = [State({}, [])]
        self.steps = []
        self.now = 0

    @classmethod
    def opened(cls, limit):
        """A new block of the class of which this is asked."""
        return cls(limit=limit)

    def ground(self):
        """The list of the grains that count beside those with names."""
        return []

    def widest(self):
        """The greatest spread of two grains, at least 1."""
        state = self.timeline[self.now]
        grains = self.ground() + list(state.held.values())
        return max([1] + [spread(one, other) for at, one in enumerate(grains) for other in grains[:at]])

    def share(self):
        """One in how many whole points belongs to all grains."""
        state = self.timeline[self.now]
        grains = list(state.held.values())
        return shared(*grains).one_in

    @property
    def limit(self):
        """The greatest spread of two grains that is allowed."""
        return self.bound

    @limit.setter
    def limit(self, value):
        if not is_number(value) or not self.widest() <= value <= MOST_LIMIT:
            raise InvalidLimit(value)
        self.bound = value

    def change_limit(self, limit):
        """Assigns the limit."""
        self.limit = limit

    def names(self):
        """The list of the names in ascending order."""
        state = self.timeline[self.now]
        return sorted(list(state.held))

    def grain(self, name):
        """The grain with a name."""
        return named_grain(self.timeline[self.now], name)

    def grains(self):
        """The dict of all grains by their names, in ascending order."""
        return {name: self.grain(name) for name in self.names()}

    def marks(self):
        """The list of the marked points in the order in which they were marked."""
        state = self.timeline[self.now]
        return list(state.marked)

    def homes(self, point):
        """The list of the names of the grains to which a whole point belongs, in ascending order."""
        return [name for name in self.names() if point in self.grain(name)]

    def spread_of(self, one, other):
        """The spread of two named grains."""
        first = self.grain(one)
        second = self.grain(other)
        return spread(first, second)

    def apply(self, command):
        """Applies one command."""
        check_form(command)
        self.advance((command,))

    def apply_all(self, *commands):
        """Applies any number of commands as a batch: all of them in one step, or none."""
        for command in commands:
            check_form(command)
        self.applying = True
        try:
            self.advance(commands)
        finally:
            self.applying = False

    def advance(self, commands):
        """Makes the step of some commands of valid forms, unless one of them fails."""
        before = self.timeline[self.now]
        state = State(before.held, before.marked)
        for command in commands:
            name = carry_out(state, command)
            if name is not None:
                self.check_reach(state, name)
        # A new step ends what can be redone.
        del self.timeline[self.now + 1:]
        del self.steps[self.now:]
        self.timeline.append(state)
        self.steps.append(commands)
        self.now += 1

    def check_reach(self, state, name):
        """Raises an error if the grain with a name is too far from another one."""
        grain = state.held[name]
        others = self.ground() + [state.held[other] for other in state.held if other != name]
        if any([spread(grain, other) > self.bound for other in others]):
            raise TooFar(self.bound)

    @property
    def busy(self):
        """Whether a batch is being applied."""
        return self.applying

    def undo(self):
        """Undoes the last step."""
        if self.now == 0:
            raise NothingLeft()
        self.now -= 1

    def redo(self):
        """Makes the step again that was undone last."""
        if self.now == len(self.steps):
            raise NothingLeft()
        self.now += 1

    def history(self):
        """The pair of the numbers of steps that can be undone and redone."""
        return self.now, len(self.steps) - self.now

    def commands(self):
        """The list of the commands that were applied and not undone, those of batches one by one."""
        return [command for step in self.steps[:self.now] for command in step]

    def twin(self):
        """An independent block of the same class with the same state, limit and history."""
        other = self.opened(self.bound)
        other.timeline = list(self.timeline)
        other.steps = list(self.steps)
        other.now = self.now
        return other

    def __len__(self):
        return len(self.timeline[self.now].held)


class PlainBlock(Block):
    """A block in which the whole grid counts as a grain, too."""

    def __init__(self, *, limit=10000):
        Block.__init__(self, limit=limit)

    def ground(self):
        """The list of the grains that count beside those with names: the whole grid."""
        return [Grain.plain()]
