"""What becomes of a leaving: where it leads, which finally blocks can drop it, and whether it arrives."""

from finallycopies.arrivals import arrivals
from finallycopies.errors import InvalidNumber
from finallycopies.onward import NORMAL, RAISE
from finallycopies.outcomes import Outcomes
from finallycopies.routes import route_from

LEAVERS = ("break", "continue", "return", "raise", "call")


def require_leaver(code, place):
    """Raise an error unless any object is the number of a leaver."""
    if code.kind(place) not in LEAVERS:
        raise InvalidNumber(place)


def route_of_leaving(outcomes, place):
    """The route of the leaving of a leaver."""
    code = outcomes.source
    # All leavers but a call are written as the ways in which they are left.
    return route_from(outcomes, place, RAISE if code.kind(place) == "call" else code[place])


def can_drop(outcomes, final):
    """Whether the finally block of a final can be left otherwise than normally."""
    block = outcomes.source.parts(final)[1]
    return [way for way in outcomes.shortest[block] if way != NORMAL] != []


def leaving_route(code, place):
    """The route of the leaving of a leaver: a tuple (blocks, goal)."""
    require_leaver(code, place)
    return route_of_leaving(Outcomes(code), place)


def droppers(code, place):
    """The ascending list of the finals whose finally blocks can drop the leaving of a leaver."""
    require_leaver(code, place)
    outcomes = Outcomes(code)
    blocks, _ = route_of_leaving(outcomes, place)
    return sorted([final for final in blocks if can_drop(outcomes, final)])


def arrives(code, place):
    """Whether the leaving of a leaver can come to its goal."""
    require_leaver(code, place)
    return route_of_leaving(Outcomes(code), place)[1] is not None


def never_arriving(code):
    """The ascending list of the leavers that runs come to and whose leaving cannot arrive."""
    outcomes = Outcomes(code)
    found = []
    for place, answers in arrivals(outcomes, {}).items():
        if answers is not None and code.kind(place) in LEAVERS:
            if route_of_leaving(outcomes, place)[1] is None:
                found.append(place)
    return found
