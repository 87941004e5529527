"""What follows when statements are left, and which pending ways are needed for it."""

from finallycopies.errors import InvalidNumber, InvalidWay
from finallycopies.onward import NORMAL, onward
from finallycopies.outcomes import Outcomes
from finallycopies.ways import is_way


def route_from(outcomes, number, way):
    """The route of a way from a statement, which need not be left in this way alone."""
    blocks = []
    final, way, goal = onward(outcomes.source, number, way)
    while final is not None:
        blocks.append(final)
        if not outcomes.can_end(final):
            return (tuple(blocks), None)
        final, way, goal = onward(outcomes.source, final, way)
    return (tuple(blocks), goal)


def routes_behind(outcomes, final):
    """The ways of the body of a final, ascending, each with its route from the final itself."""
    body = outcomes.source.parts(final)[0]
    return [(way, route_from(outcomes, final, way)) for way in sorted(list(outcomes.shortest[body]))]


def needed_layers(outcomes, place):
    """The layers that are needed at a place, the outermost first."""
    code = outcomes.source
    if code.kind(place) == "final":
        return [place]
    layers = code.layers(place)
    found = []
    table = outcomes.shortest[place]
    number = place
    # table has the ways in which the statement with the number can be left from the place, with
    # the blocks of the layers in it left otherwise than normally.
    while layers and table:
        outer = code.parent(number)
        if outer == layers[-1]:
            layers.pop()
            if NORMAL in table:
                found.append(outer)
        table = outcomes.around(number, table)
        number = outer
    return found[::-1]


def ways_by_route(outcomes, final):
    """The different routes behind a final, in the order of their first ways, each with its ways."""
    found = {}
    for way, follows in routes_behind(outcomes, final):
        found.setdefault(follows, []).append(way)
    return found


def require_final(code, number):
    """Raise an error unless any object is the number of a final."""
    if code.kind(number) != "final":
        raise InvalidNumber(number)


def route(code, number, way):
    """The route of one of its ways from a statement: a tuple (blocks, goal).

    Blocks are the finals whose finally blocks begin one after another, and the goal is the place
    behind them, or the text of the end, or None if the last block is never left normally.
    """
    code.require_number(number)
    outcomes = Outcomes(code)
    if not is_way(way) or way not in outcomes.shortest[number]:
        raise InvalidWay(way)
    return route_from(outcomes, number, way)


def behind(code, final):
    """The ways of the body of a final, ascending, each with its route from the final itself."""
    require_final(code, final)
    return routes_behind(Outcomes(code), final)


def sharing(code, final):
    """The lists of the ways of the body of a final that have equal routes from the final itself."""
    require_final(code, final)
    return list(ways_by_route(Outcomes(code), final).values())


def copies_here(code, final):
    """How many copies of the end of its block a final needs in one copy of what is around it."""
    require_final(code, final)
    outcomes = Outcomes(code)
    return len(ways_by_route(outcomes, final)) if outcomes.can_end(final) else 0


def needed(code, place):
    """The layers whose pending ways may be needed when a run goes on from a place, the outermost first."""
    code.require_place(place)
    return needed_layers(Outcomes(code), place)
