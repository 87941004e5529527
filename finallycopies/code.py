"""A code: a statement and all statements in it, numbered in preorder."""

from finallycopies.errors import InvalidCode, InvalidNumber, LimitExceeded
from finallycopies.wholes import is_integer

MOST_STATEMENTS = 400
MOST_LEVELS = 100
MOST_BLOCKS = 25
LONGEST_NAME = 8

# How many items the tuple of each kind has.
SIZES = {
    "do": 2,
    "call": 2,
    "if": 4,
    "while": 3,
    "seq": 2,
    "break": 2,
    "continue": 2,
    "return": 1,
    "raise": 1,
    "try": 3,
    "final": 3,
}
NAMED = ("do", "call", "if", "while")
JUMPS = ("break", "continue")
PAIRS = ("try", "final")
# Statements that begin with their first part instead of a step of their own.
ENTERED = ("seq", "try", "final")
PLACELESS = ("seq", "try")


def is_name(value):
    """Whether any object is a name."""
    if not isinstance(value, str) or not 1 <= len(value) <= LONGEST_NAME:
        return False
    return all(["a" <= letter <= "z" for letter in value])


def has_kind(value):
    """Whether any object is a tuple with a kind and as many items as this kind has."""
    if not isinstance(value, tuple) or len(value) == 0:
        return False
    kind = value[0]
    # The kind may be unhashable: it is looked up only if it is a string.
    return isinstance(kind, str) and kind in SIZES and len(value) == SIZES[kind]


def is_statement(value, whiles):
    """Whether any object is a statement with so many whiles around it, whatever its parts are."""
    if not has_kind(value):
        return False
    kind = value[0]
    if kind in NAMED:
        return is_name(value[1])
    if kind in JUMPS:
        return is_integer(value[1]) and 1 <= value[1] <= whiles
    if kind == "seq":
        return isinstance(value[1], tuple) and len(value[1]) > 0
    return True


def judge(spot, number):
    """Raise the error of the first condition that the object of a spot violates under a number."""
    value, _, level, whiles, layers = spot
    if number >= MOST_STATEMENTS:
        raise LimitExceeded(MOST_STATEMENTS)
    if level > MOST_LEVELS:
        raise LimitExceeded(MOST_LEVELS)
    if len(layers) > MOST_BLOCKS:
        raise LimitExceeded(MOST_BLOCKS)
    if not is_statement(value, whiles):
        raise InvalidCode(number)


def head_of(statement):
    """A flat tuple that tells all of a statement but what its parts are."""
    kind = statement[0]
    if kind == "seq":
        return (kind, len(statement[1]))
    if kind in NAMED or kind in JUMPS:
        return (kind, statement[1])
    return (kind,)


def parts_of(statement):
    """The list of the parts of a statement; they may be any objects."""
    kind = statement[0]
    if kind == "seq":
        return list(statement[1])
    if kind in PAIRS:
        return list(statement[1:])
    return list(statement[2:])


def statement_of(head, parts):
    """The statement with a head and parts."""
    if head[0] == "seq":
        return ("seq", tuple(parts))
    return (*head, *parts)


def spots_inside(spot, number):
    """The spots of the parts of the statement of a spot, which has a number, in their order."""
    statement, _, level, whiles, layers = spot
    kind = statement[0]
    if kind == "while":
        whiles = whiles + 1
    spots = [(part, number, level + 1, whiles, layers) for part in parts_of(statement)]
    if kind == "final":
        spots[1] = (statement[2], number, level + 1, whiles, layers + [number])
    return spots


class Code:
    """A statement with its parts, their parts and so on; each is known by its number."""

    def __init__(self, statement):
        self._statements = []
        self._heads = []
        self._parents = []
        self._parts = []
        self._siblings = []
        self._layers = []
        # A spot is an object, the number of the statement of which it is a part, its level, the
        # number of whiles around it, and the finals in whose finally blocks it stands. They wait
        # on a stack, the next one last: recursion would depend on Python's own limit.
        waiting = [(statement, None, 1, 0, [])]
        while waiting:
            spot = waiting.pop()
            number = len(self._statements)
            judge(spot, number)
            self._keep(spot, number)
            for inner in reversed(list(spots_inside(spot, number))):
                waiting.append(inner)

    def _keep(self, spot, number):
        """Give the statement of a spot the next number."""
        statement, parent, _, _, layers = spot
        self._statements.append(statement)
        self._heads.append(head_of(statement))
        self._parents.append(parent)
        self._parts.append([])
        self._siblings.append(None)
        self._layers.append(layers)
        if parent is not None:
            if self._parts[parent]:
                self._siblings[self._parts[parent][-1]] = number
            self._parts[parent].append(number)

    def __len__(self):
        return len(self._statements)

    def __eq__(self, other):
        # In preorder the heads tell the whole statement, and comparing them is not recursive.
        return isinstance(other, Code) and self._heads == other._heads

    def __getitem__(self, at):
        self.require_number(at)
        return self._statements[at]

    def __iter__(self):
        raise TypeError("a code is not iterated over")

    def require_number(self, number):
        """Raise an error unless any object is the number of a statement."""
        if not is_integer(number) or not 0 <= number < len(self._statements):
            raise InvalidNumber(number)

    def require_place(self, place):
        """Raise an error unless any object is a place."""
        self.require_number(place)
        if self._heads[place][0] in PLACELESS:
            raise InvalidNumber(place)

    def kind(self, number):
        """The first item of the statement with a number."""
        self.require_number(number)
        return self._heads[number][0]

    def parent(self, number):
        """The number of the statement of which a statement is a part; None for the whole."""
        self.require_number(number)
        return self._parents[number]

    def parts(self, number):
        """The list of the numbers of the parts of a statement."""
        self.require_number(number)
        return list(self._parts[number])

    def sibling(self, number):
        """The part that comes next after a statement in the one around it; None behind the last."""
        self.require_number(number)
        return self._siblings[number]

    def places(self):
        """The ascending list of the places."""
        return [number for number, head in enumerate(self._heads) if head[0] not in PLACELESS]

    def entry(self, number):
        """The place at which a statement begins."""
        self.require_number(number)
        while self._heads[number][0] in ENTERED:
            # In preorder the first part comes right behind its statement.
            number = number + 1
        return number

    def layers(self, place):
        """The list of the finals in whose finally blocks a place stands, the outermost first."""
        self.require_place(place)
        if self._heads[place][0] == "final":
            return self._layers[place] + [place]
        return list(self._layers[place])
