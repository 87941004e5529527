"""How many moments and addresses there are at the places of a code, without building them."""

from finallycopies.arrivals import arrivals
from finallycopies.outcomes import Outcomes
from finallycopies.routes import needed_layers, ways_by_route
from finallycopies.wholes import is_integer


class Counts:
    """The counts of one code, and what was worked out for them.

    Layers that are needed together are kept as one integer, which has the bit with the number of
    each of them. They stand one within another, so the innermost one has the highest bit.
    """

    def __init__(self, code):
        self.source = code
        self.outcomes = Outcomes(code)
        found = arrivals(self.outcomes)
        self.reached = [place for place in code.places() if found[place] is not None]
        self._needs = {}
        self._choices = {}
        self._sums = {}

    def needs(self, place):
        """The layers that are needed at a place."""
        if place not in self._needs:
            layers = needed_layers(self.outcomes, place)
            self._needs[place] = sum([1 << layer for layer in layers])
        return self._needs[place]

    def needs_behind(self, follows):
        """The layers that are needed behind a route."""
        blocks, goal = follows
        found = self.needs(goal) if is_integer(goal) else 0
        for final in blocks:
            found = found | self.needs(self.source.entry(self.source.parts(final)[1]))
        # The pending way of a block that begins on the route is told by the route.
        own = sum([1 << final for final in blocks])
        return (found | own) - own

    def choices(self, final):
        """By the layers that are needed behind them: how many different routes behind a final there are."""
        if final not in self._choices:
            made = {}
            for follows in ways_by_route(self.outcomes, final):
                layers = self.needs_behind(follows)
                made[layers] = made.get(layers, 0) + 1
            self._choices[final] = made
        return self._choices[final]

    def addresses(self, layers):
        """How many addresses a reached place has at which layers are needed."""
        if layers == 0:
            return 1
        if layers not in self._sums:
            inner = layers.bit_length() - 1
            others = layers - (1 << inner)
            found = 0
            # Only layers around the inner one are needed behind it: this goes at most 25 deep.
            for further, many in self.choices(inner).items():
                found = found + many * self.addresses(others | further)
            self._sums[layers] = found
        return self._sums[layers]

    def copies(self, place):
        """How many addresses a place has."""
        return self.addresses(self.needs(place)) if place in self.reached else 0

    def moments(self, place):
        """How many moments there are at a place."""
        if place not in self.reached:
            return 0
        found = 1
        for layer in self.source.layers(place):
            body = self.source.parts(layer)[0]
            found = found * len(self.outcomes.shortest[body])
        return found


def moments(code, place):
    """How many moments there are at a place."""
    code.require_place(place)
    return Counts(code).moments(place)


def copies(code, place):
    """How many addresses a place has."""
    code.require_place(place)
    return Counts(code).copies(place)


def all_moments(code):
    """How many moments there are at all places."""
    counts = Counts(code)
    return sum([counts.moments(place) for place in counts.reached])


def total(code):
    """How many addresses all places have: the rows of the least lowered program."""
    counts = Counts(code)
    return sum([counts.copies(place) for place in counts.reached])


def most_copied(code):
    """The greatest number of addresses of a place, and the least place that has it."""
    counts = Counts(code)
    most = (0, None)
    for place in counts.reached:
        many = counts.copies(place)
        if many > most[0]:
            most = (many, place)
    return most
