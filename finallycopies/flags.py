"""Finals whose pending way is kept in a variable, and how many addresses there are with them."""

from finallycopies.counts import Counts, layers_of
from finallycopies.errors import InvalidBound, InvalidFinals, LimitExceeded
from finallycopies.outcomes import length_first
from finallycopies.runs import run
from finallycopies.wholes import is_integer

MOST_FINALS = 6


def finals_of(code):
    """The ascending list of the finals of a code."""
    return [number for number in range(len(code)) if code.kind(number) == "final"]


def check_finals(code, finals):
    """Raise an error unless any object is an ascending list of finals of a code."""
    if not isinstance(finals, list):
        raise InvalidFinals(-1)
    known = finals_of(code)
    last = -1
    for at, final in enumerate(finals):
        if not is_integer(final) or final not in known or final <= last:
            raise InvalidFinals(at)
        last = final


def total_with(code, finals):
    """How many addresses the program has that keeps what is pending at some finals in variables."""
    check_finals(code, finals)
    return Counts(code).total(layers_of(finals))


def dispatches(code, finals, answers):
    """How often a run does the end of the finally block of one of the flagged finals."""
    check_finals(code, finals)
    return len([place for place in run(code, answers).visited if place in finals])


def choices_of(finals):
    """All lists of some of the finals, those with the fewest first, and the least of these first."""
    found = [[]]
    for final in finals:
        found = found + [chosen + [final] for chosen in found]
    return sorted(found, key=length_first)


def fewest_flags(code, most):
    """The least list of those with the fewest finals with which there are at most so many addresses."""
    if not is_integer(most) or most < 0:
        raise InvalidBound(most)
    finals = finals_of(code)
    if len(finals) > MOST_FINALS:
        raise LimitExceeded(MOST_FINALS)
    counts = Counts(code)
    for chosen in choices_of(finals):
        if counts.total(layers_of(chosen)) <= most:
            return chosen
    return None
