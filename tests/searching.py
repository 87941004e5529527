"""Tables of jumps run by their rows, and what a search through lists of answers finds with them."""

import reference
from finallycopies.code import Code
from finallycopies.lowered import Lowered

FOREVER = "for ever"


def table_run(rows, answers, start=0, patience=600):
    """The run of a table from a row: (places that are done, what follows).

    What follows is the place that is waited at, the text of an end, or a text for a ring of rows
    that never ask, which is left after so many rows that any two different ones have differed.
    """
    visited = []
    used = 0
    quiet = 0
    at = start
    while not isinstance(at, str):
        row = rows[at]
        answer = 0
        if len(row) == 3:
            if used == len(answers):
                return visited, row[0]
            answer = answers[used]
            used += 1
            quiet = 0
        quiet += 1
        if quiet > patience:
            return visited, FOREVER
        visited.append(row[0])
        at = row[1 + answer]
    return visited, at


def code_run(statement, answers):
    """The direct run of a code in the same form."""
    visited, _, _, (place, _) = reference.direct(statement, answers)
    return visited, place


def first_difference(statement, rows, longest):
    """The first list of answers up to a length with which a table does not run like a code, or None."""
    for answers in reference.lists_up_to(longest):
        if table_run(rows, answers) != code_run(statement, answers):
            return answers
    return None


def same_so_far(rows, low, answers):
    """The pairs of a row and an address that both runs come to, up to a difference: (pairs, differs)."""
    pairs = []
    at, address = 0, low.start()
    used = 0
    while True:
        if isinstance(at, str) or isinstance(address, str):
            return pairs, at != address
        if rows[at][0] != low.place(address):
            return pairs, True
        pairs.append((at, address))
        answer = 0
        if len(rows[at]) == 3:
            if used == len(answers):
                return pairs, False
            answer = answers[used]
            used += 1
        at, address = rows[at][1 + answer], low.row(address)[1 + answer]


def pairs_before_difference(statement, rows):
    """The first list of answers with a difference, and how many different pairs are met before it."""
    low = Lowered(Code(statement))
    met = set()
    for answers in reference.lists_up_to(14):
        pairs, differs = same_so_far(rows, low, answers)
        met.update(pairs)
        if differs:
            return answers, len(met)
    raise AssertionError("no difference was found")


def one_row_for_each_place(statement):
    """A table in which all copies of a place are one row, which goes on like one of them."""
    low = Lowered(Code(statement))
    chosen = {}
    waiting = [low.start()]
    for address in waiting:
        row = low.row(address)
        if chosen.setdefault(low.place(address), row) == row:
            waiting.extend([item for item in row[1:] if not isinstance(item, str) and low.place(item) not in chosen])
    start = low.place(low.start())
    order = [start] + [place for place in chosen if place != start]
    rows = []
    for place in order:
        items = [item if isinstance(item, str) else order.index(low.place(item)) for item in chosen[place][1:]]
        rows.append((place, *items))
    return rows
