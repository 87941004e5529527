"""Tables of jumps: the least one of a code, whether one runs like a code, and alike rows as one."""

from finallycopies.errors import InvalidTable, LimitExceeded
from finallycopies.lowered import Lowered
from finallycopies.onward import ENDS
from finallycopies.runs import ASKING
from finallycopies.wholes import is_integer

MOST_ROWS = 200
MOST_PAIRS = 300


def is_item(value, many):
    """Whether any object is an item of a row of a table with so many rows."""
    if isinstance(value, str):
        return value in list(ENDS.values())
    return is_integer(value) and 0 <= value < many


def is_row(code, value, many):
    """Whether any object is a row of a table with so many rows."""
    if not isinstance(value, tuple) or len(value) == 0:
        return False
    place = value[0]
    if not is_integer(place) or place not in code.places():
        return False
    items = 2 if code.kind(place) in ASKING else 1
    return len(value) == 1 + items and all([is_item(item, many) for item in value[1:]])


def check_rows(code, rows):
    """Raise an error unless any object is a table for a code."""
    if not isinstance(rows, list) or not 1 <= len(rows) <= MOST_ROWS:
        raise InvalidTable(-1)
    for at, row in enumerate(rows):
        if not is_row(code, row, len(rows)):
            raise InvalidTable(at)


def renamed(row, names):
    """A row with the names of its items instead of them; texts of an end stay."""
    return (row[0], *[item if isinstance(item, str) else names[item] for item in row[1:]])


def in_order(rows, start):
    """The table of those rows that are come to from a start, in the order in which they occur as items.

    The rows are a dict, and their items are its keys.
    """
    order = [start]
    indexes = {start: 0}
    at = 0
    while at < len(order):
        row = rows[order[at]]
        for item in row[1:]:
            if not isinstance(item, str) and item not in indexes:
                indexes[item] = len(order)
                order.append(item)
        at = at + 1
    return [renamed(rows[name], indexes) for name in order]


def table(code):
    """The least table that runs like a code, with a row for each address."""
    low = Lowered(code)
    if low.total() > MOST_ROWS:
        raise LimitExceeded(MOST_ROWS)
    return in_order({address: low.row(address) for address in range(low.total())}, low.start())


def differ(rows, low, mine, theirs):
    """Whether a run of a table and one by addresses differ at once, where they have come to these items."""
    if isinstance(mine, str) or isinstance(theirs, str):
        return mine != theirs
    return rows[mine][0] != low.place(theirs)


def check_table(code, rows):
    """None if a table runs like a code, otherwise the first shortest answers with which it does not."""
    check_rows(code, rows)
    low = Lowered(code)
    # Answers, and the items to which both runs come with them; shorter answers come first.
    tried = [([], 0, low.start())]
    met = {}
    at = 0
    while at < len(tried):
        answers, mine, theirs = tried[at]
        if differ(rows, low, mine, theirs):
            return answers
        at = at + 1
        if isinstance(mine, str) or (mine, theirs) in met:
            continue
        met[(mine, theirs)] = True
        if len(met) > MOST_PAIRS:
            raise LimitExceeded(MOST_PAIRS)
        row, other = rows[mine], low.row(theirs)
        if len(row) > 2:
            tried.append((answers + [0], row[1], other[1]))
            tried.append((answers + [1], row[2], other[2]))
        else:
            # No answer is needed: both go on before other answers are tried.
            tried.insert(at, (answers, row[1], other[1]))
    return None


def numbered(values):
    """For each value a number from 0; equal values have the same one, others different ones."""
    numbers = {}
    for value in values:
        numbers.setdefault(value, len(numbers))
    return [numbers[value] for value in values]


def parted(rows, found):
    """The classes of rows, where rows of one class are parted if their items are of different ones."""
    return numbered([(found[at], renamed(row, found)) for at, row in enumerate(rows)])


def classes(rows):
    """For each row the number of its class; alike rows have the same one, others different ones."""
    found = numbered([row[0] for row in rows])
    finer = parted(rows, found)
    while max(finer) > max(found):
        found = finer
        finer = parted(rows, found)
    return found


def merged(code, rows):
    """The table in which alike rows are one row, without those that are never come to."""
    check_rows(code, rows)
    found = classes(rows)
    kept = {found[at]: renamed(row, found) for at, row in enumerate(rows)}
    return in_order(kept, found[0])
