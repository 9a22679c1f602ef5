"""Code of products: instructions for a stack of turns."""

from grainmeet.errors import NothingLeft
from grainmeet.products import named_turn
from grainmeet.turns import turn_with


def compiled(product):
    """The code of a product."""
    kind = product[0]
    if kind == "name":
        return [("load", product[1])]
    if kind == "four":
        return [("push", product[1])]
    if kind == "back":
        return compiled(product[1]) + [("inv",)]
    return compiled(product[1]) + compiled(product[2]) + [("mul",)]


def run(code, turns):
    """The turn that a code leaves on an empty stack, with a dict of turns by names."""
    stack = []
    for instruction in code:
        kind = instruction[0]
        if kind == "push":
            stack.append(turn_with(instruction[1]))
        elif kind == "load":
            stack.append(named_turn(instruction[1], turns))
        elif kind == "inv":
            stack.append(-last_of(stack))
        else:
            second = last_of(stack)
            first = last_of(stack)
            stack.append(first * second)
    if len(stack) != 1:
        raise NothingLeft()
    return stack[0]


def last_of(stack):
    """The last turn of a stack, which loses it."""
    if not stack:
        raise NothingLeft()
    return stack.pop()


def shortened(code):
    """The code with its first foldable place folded, again and again."""
    short = []
    for instruction in code:
        # All before it is folded already, so the only foldable place is the one that ends here.
        short.append(instruction)
        many = foldable(short)
        if many:
            folded = folding(short[-many:])
            del short[-many:]
            short.extend(folded)
    return short


def foldable(code):
    """How many instructions the foldable place at the end of a code has; 0 if there is none."""
    kinds = [instruction[0] for instruction in code[-3:]]
    if kinds[-2:] in (["inv", "inv"], ["push", "inv"]):
        return 2
    if kinds == ["push", "push", "mul"]:
        return 3
    return 0


def folding(place):
    """The instructions that stand for those of a foldable place."""
    if place[0] == ("inv",):
        return []
    turn = run(place, {})
    return [("push", turn.four.halves)]


def depth(code):
    """The greatest number of turns that the stack of a code of a product has."""
    now = most = 0
    for instruction in code:
        if instruction[0] in ("push", "load"):
            now += 1
        elif instruction[0] == "mul":
            now -= 1
        most = max(most, now)
    return most
