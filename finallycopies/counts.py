"""How many moments and addresses there are at the places of a code, without building them."""

from finallycopies.arrivals import arrivals
from finallycopies.outcomes import Outcomes
from finallycopies.routes import needed_layers, routes_behind
from finallycopies.wholes import is_integer


def layers_of(finals):
    """The integer that stands for some finals, as layers that are needed together."""
    return sum([1 << final for final in finals])


def innermost(layers):
    """The innermost of one or more layers, and the others."""
    inner = layers.bit_length() - 1
    return (inner, layers - (1 << inner))


class Counts:
    """The counts of one code, and what was worked out for them.

    Layers that are needed together are kept as one integer, which has the bit with the number of
    each of them. They stand one within another, so the innermost one has the highest bit.
    """

    def __init__(self, code):
        self.source = code
        self.outcomes = Outcomes(code)
        found = arrivals(self.outcomes, {})
        self.reached = [place for place in code.places() if found[place] is not None]
        self._needs = {}
        self._behind = {}
        self._further = {}
        self._choices = {}
        self._sums = {}

    def needs(self, place):
        """The layers that are needed at a place."""
        if place not in self._needs:
            self._needs[place] = layers_of(needed_layers(self.outcomes, place))
        return self._needs[place]

    def needs_behind(self, follows):
        """The layers that are needed behind a route."""
        blocks, goal = follows
        found = self.needs(goal) if is_integer(goal) else 0
        for final in blocks:
            found = found | self.needs(self.source.entry(self.source.parts(final)[1]))
        # The pending way of a block that begins on the route is told by the route.
        own = layers_of(blocks)
        return (found | own) - own

    def behind(self, final):
        """By way, ascending: the routes of the ways of the body of a final from the final itself."""
        if final not in self._behind:
            found = routes_behind(self.outcomes, final)
            self._behind[final] = {way: follows for way, follows in found}
        return self._behind[final]

    def further(self, final):
        """By route, in the order of their first ways: the layers that are needed behind it."""
        if final not in self._further:
            found = self.behind(final)
            self._further[final] = {follows: self.needs_behind(follows) for follows in found.values()}
        return self._further[final]

    def choices(self, final):
        """By the layers that are needed behind them: how many different routes behind a final there are."""
        if final not in self._choices:
            made = {}
            for layers in self.further(final).values():
                made[layers] = made.get(layers, 0) + 1
            self._choices[final] = made
        return self._choices[final]

    def choices_with(self, final, flagged):
        """The choices, of which a flagged final has one, with all that any of its routes needs."""
        found = self.choices(final)
        if flagged & (1 << final) == 0:
            return found
        together = 0
        for layers in found:
            together = together | layers
        return {together: 1}

    def addresses(self, layers, flagged):
        """How many addresses a reached place has at which layers are needed, if some finals are flagged."""
        if layers == 0:
            return 1
        if (layers, flagged) not in self._sums:
            inner, others = innermost(layers)
            found = 0
            # Only layers around the inner one are needed behind it: this goes at most 25 deep.
            for further, many in self.choices_with(inner, flagged).items():
                found = found + many * self.addresses(others | further, flagged)
            self._sums[(layers, flagged)] = found
        return self._sums[(layers, flagged)]

    def copies(self, place, flagged):
        """How many addresses a place has, if some finals are flagged."""
        return self.addresses(self.needs(place), flagged) if place in self.reached else 0

    def total(self, flagged):
        """How many addresses all places have, if some finals are flagged."""
        return sum([self.copies(place, flagged) for place in self.reached])

    def moments(self, place):
        """How many moments there are at a place."""
        if place not in self.reached:
            return 0
        found = 1
        for layer in self.source.layers(place):
            body = self.source.parts(layer)[0]
            found = found * len(self.outcomes.shortest[body])
        return found


def moments(code, place):
    """How many moments there are at a place."""
    code.require_place(place)
    return Counts(code).moments(place)


def copies(code, place):
    """How many addresses a place has."""
    code.require_place(place)
    return Counts(code).copies(place, 0)


def all_moments(code):
    """How many moments there are at all places."""
    counts = Counts(code)
    return sum([counts.moments(place) for place in counts.reached])


def total(code):
    """How many addresses all places have: the rows of the least lowered program."""
    return Counts(code).total(0)


def most_copied(code):
    """The greatest number of addresses of a place, and the least place that has it."""
    counts = Counts(code)
    most = (0, None)
    for place in counts.reached:
        many = counts.copies(place, 0)
        if many > most[0]:
            most = (many, place)
    return most
