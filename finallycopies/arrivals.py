"""Which statements a run begins, which places it comes to, and the first shortest answers for each."""

from finallycopies.code import ENTERED
from finallycopies.onward import NORMAL, RAISE
from finallycopies.outcomes import first_shortest


def joined(one, other):
    """Two lists of answers one after the other; None unless there are both."""
    if one is None or other is None:
        return None
    return one + other


def answers_to_next(kind, table, way):
    """The first shortest answers from the beginning of a part of a statement to that of the next.

    The table has the ways of the part. The body of a final is left in the given way, or in any if
    this is None. None if the next part never begins.
    """
    if kind == "final":
        return first_shortest(list(table.values())) if way is None else table[way]
    return table.get(NORMAL if kind == "seq" else RAISE)


def beginnings_inside(outcomes, number, answers, pending):
    """For each part of a statement the answers with which it begins; None for those that never do.

    The statement itself begins with the given answers.
    """
    kind = outcomes.source.kind(number)
    if kind == "if":
        return [answers + [0], answers + [1]]
    if kind == "while":
        return [answers + [1]]
    if kind not in ENTERED:
        return []
    found = [answers]
    for part in outcomes.source.parts(number)[:-1]:
        further = answers_to_next(kind, outcomes.shortest[part], pending.get(number))
        answers = joined(answers, further)
        found.append(answers)
    return found


def beginnings(outcomes, pending):
    """By number: the first shortest answers with which a run begins a statement, or None.

    For some finals a way of their bodies may be told, which is to be pending in their blocks.
    """
    code = outcomes.source
    found = [None for _ in range(len(code))]
    found[0] = []
    for number in range(len(code)):
        if found[number] is not None:
            inside = beginnings_inside(outcomes, number, found[number], pending)
            for part, answers in zip(code.parts(number), inside):
                found[part] = answers
    return found


def arrivals(outcomes, pending):
    """By place: the first shortest answers with which a run comes to it, or None.

    The ways that are told for some finals are pending there if these are layers of the place.
    """
    code = outcomes.source
    begun = beginnings(outcomes, pending)
    found = {}
    for place in code.places():
        if code.kind(place) == "final":
            block = code.parts(place)[1]
            found[place] = joined(begun[block], outcomes.shortest[block].get(NORMAL))
        else:
            found[place] = begun[place]
    return found
