"""Where a code goes on when a statement of it is left in a way."""

from finallycopies.code import JUMPS

NORMAL = ("normal",)
RAISE = ("raise",)
# The ways out of the body of a while after which the while is done again.
AGAIN = (("normal",), ("continue", 1))
# The text of the end of a run, by the way in which statement 0 is left.
ENDS = {"normal": "end", "return": "return", "raise": "raise"}


def begins_next(kind, way):
    """Whether in a statement of a kind the next part begins when a part before it is left in a way."""
    if kind == "seq":
        return way == NORMAL
    if kind == "try":
        return way == RAISE
    return kind == "final"


def comes_back(kind, way):
    """Whether a statement of a kind is the next place when its last part is left in a way."""
    if kind == "while":
        return way in AGAIN
    return kind == "final" and way == NORMAL


def way_outside(kind, way):
    """The way in which a statement of a kind is left, if it is, when its part is left in a way."""
    if kind != "while" or way[0] not in JUMPS:
        return way
    if way[1] == 1:
        return NORMAL
    return (way[0], way[1] - 1)


def onward(code, number, way):
    """What follows when a statement is left in a way: a tuple (final, way, goal).

    The goal is the next place, or the text of the end. If a finally block begins there, its final
    comes first in the tuple, with the way that is pending then; otherwise None comes first.
    """
    while number > 0:
        outer = code.parent(number)
        kind = code.kind(outer)
        later = code.sibling(number)
        if later is not None and begins_next(kind, way):
            final = outer if kind == "final" else None
            return (final, way, code.entry(later))
        if comes_back(kind, way):
            return (None, way, outer)
        way = way_outside(kind, way)
        number = outer
    return (None, way, ENDS[way[0]])
