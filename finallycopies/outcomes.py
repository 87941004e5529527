"""In which ways the statements of a code are left, and the first shortest answers for each way."""

from finallycopies.code import ENTERED
from finallycopies.onward import NORMAL, RAISE, begins_next, comes_back, way_outside


def length_first(items):
    """A key that puts shorter lists first, and the least first among equally long ones."""
    return (len(items), items)


def first_shortest(lists):
    """The first shortest of one or more lists of answers."""
    return min(lists, key=length_first)


def offer(table, way, answers):
    """Put answers into a table of ways, unless it has answers for the way that come before them."""
    if way in table:
        answers = first_shortest([table[way], answers])
    table[way] = answers


def merge(table, answers, other):
    """Offer a table the ways of another one, with answers that come before the other's own."""
    for way, behind in other.items():
        offer(table, way, answers + behind)


def through_block(table, block):
    """The table of a final from that of its body and that of its finally block."""
    made = {}
    if NORMAL in block:
        for way, answers in table.items():
            made[way] = answers + block[NORMAL]
    # The pending way is dropped, so the shortest way to come to the block is as good as any.
    shortest = first_shortest(list(table.values()))
    for way, answers in block.items():
        if way != NORMAL:
            offer(made, way, shortest + answers)
    return made


class Outcomes:
    """The ways of all statements of a code.

    For each number, shortest has a table: the ways in which the statement can be left, done alone,
    each with the first shortest answers. For each part of a seq, try or final, rests has such a
    table of the ways in which the statement around it can be left once the part begins.
    """

    def __init__(self, code):
        self.source = code
        self.shortest = [{} for _ in range(len(code))]
        self.rests = [{} for _ in range(len(code))]
        # In preorder all that a table is made from comes behind it.
        for number in reversed(range(len(code))):
            self.shortest[number] = self._alone(number)
            if number > 0 and code.kind(code.parent(number)) in ENTERED:
                self.rests[number] = self.around(number, self.shortest[number])

    def _alone(self, number):
        """The table of a statement; those of the statements in it are made already."""
        kind = self.source.kind(number)
        if kind in ENTERED:
            return self.rests[number + 1]
        if kind == "do":
            return {NORMAL: []}
        if kind == "call":
            return {NORMAL: [0], RAISE: [1]}
        if kind == "if":
            return self._alone_if(number)
        if kind == "while":
            return self._alone_while(number)
        # All others are written as the ways in which they are left.
        return {self.source[number]: []}

    def _alone_if(self, number):
        made = {}
        for answer, part in enumerate(self.source.parts(number)):
            merge(made, [answer], self.shortest[part])
        return made

    def _alone_while(self, number):
        # A round that comes back to the while gives no new way and only longer answers.
        made = {NORMAL: [0]}
        for way, answers in self.shortest[number + 1].items():
            if not comes_back("while", way):
                offer(made, way_outside("while", way), [1] + answers)
        return made

    def around(self, number, table):
        """How the statement around one can be left, if that one is left as a table tells.

        The way that is pending is not known in a finally block: what is left in it is left out.
        """
        outer = self.source.parent(number)
        kind = self.source.kind(outer)
        later = self.source.sibling(number)
        if kind == "final" and later is not None:
            return through_block(table, self.shortest[later])
        made = {}
        for way, answers in table.items():
            if later is not None and begins_next(kind, way):
                merge(made, answers, self.rests[later])
            elif kind == "while" and comes_back(kind, way):
                merge(made, answers, self.shortest[outer])
            elif not comes_back(kind, way):
                offer(made, way_outside(kind, way), answers)
        return made

    def can_end(self, final):
        """Whether the finally block of a final can be left normally."""
        return NORMAL in self.shortest[self.source.parts(final)[1]]
