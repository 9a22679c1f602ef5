"""Trials: what would become of commands, without a change of the block."""

from grainmeet.errors import GrainError, Missing


def attempt(block, *commands):
    """The list of the answers to commands, applied one after the other: `ok`, or the tag of the error."""
    twin = block.twin()
    return [outcome(twin, command) for command in commands]


def first_refused(block, *commands):
    """The index of the first command that fails, or None."""
    twin = block.twin()
    for at, command in enumerate(commands):
        if outcome(twin, command) != "ok":
            return at
    return None


def outcome(block, command):
    """What becomes of a command that is applied to a block: `ok`, or the tag of the error."""
    try:
        block.apply(command)
    except (GrainError, Missing) as problem:
        return problem.tag
    return "ok"
