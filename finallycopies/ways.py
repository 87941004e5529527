"""In which ways statements can be left, and to which places runs come."""

from finallycopies.arrivals import arrivals, beginnings
from finallycopies.code import JUMPS
from finallycopies.onward import ENDS
from finallycopies.outcomes import Outcomes
from finallycopies.wholes import is_integer


def is_way(value):
    """Whether any object is a way, of whatever statement."""
    if not isinstance(value, tuple) or len(value) == 0 or not isinstance(value[0], str):
        return False
    if len(value) == 1:
        return value[0] in ENDS
    # True is equal to 1, but no integer: it must not come to be looked up in a table of ways.
    return len(value) == 2 and value[0] in JUMPS and is_integer(value[1])


def ways(code, number):
    """The ascending list of the ways in which a statement can be left, if it is done alone."""
    code.require_number(number)
    return sorted(list(Outcomes(code).shortest[number]))


def way_answers(code, number, way):
    """The first shortest answers with which a statement, done alone, is left in a way, or None."""
    code.require_number(number)
    if not is_way(way):
        return None
    return Outcomes(code).shortest[number].get(way)


def place_answers(code, place):
    """The first shortest answers with which a run comes to a place, or None."""
    code.require_place(place)
    return arrivals(Outcomes(code), {})[place]


def reached(code):
    """The ascending list of the places to which some run comes."""
    found = arrivals(Outcomes(code), {})
    return [place for place in code.places() if found[place] is not None]


def dead(code):
    """The ascending list of the statements whose entry no run comes to."""
    begun = beginnings(Outcomes(code), {})
    return [number for number in range(len(code)) if begun[number] is None]
