"""Direct runs: a code is done place by place, with a list of answers."""

from finallycopies.errors import InvalidAnswers
from finallycopies.onward import NORMAL, RAISE, onward
from finallycopies.wholes import is_integer

MOST_ANSWERS = 1000
ASKING = ("call", "if", "while")


def is_answer(value):
    """Whether any object is the integer 0 or 1."""
    return is_integer(value) and 0 <= value <= 1


def check_answers(answers):
    """Raise an error unless any object is a list of answers."""
    if not isinstance(answers, list) or len(answers) > MOST_ANSWERS:
        raise InvalidAnswers(-1)
    for at, answer in enumerate(answers):
        if not is_answer(answer):
            raise InvalidAnswers(at)


class Run:
    """What a run did: the places in order, the number of answers used, and the text of the end."""

    def __init__(self, visited, used, end):
        self.visited = list(visited)
        self.used = used
        self.end = end

    def __eq__(self, other):
        return (
            isinstance(other, Run)
            and self.visited == other.visited
            and self.used == other.used
            and self.end == other.end
        )


class Walk:
    """A run that is on its way; spot is the place that is next, or the text of the end."""

    def __init__(self, code, spot, pending):
        self.source = code
        self.spot = spot
        # By final: the way that was last pending there. What is dropped may stay here, since a
        # block that begins again puts its own pending way in the place of the old one.
        self.pending = dict(pending)

    def ended(self):
        """Whether the run has ended."""
        return isinstance(self.spot, str)

    def asks(self):
        """Whether the next place asks for an answer."""
        return not self.ended() and self.source.kind(self.spot) in ASKING

    def step(self, answer):
        """Do the next place; the answer counts only if this place asks for one."""
        place = self.spot
        kind = self.source.kind(place)
        if kind == "do":
            self._leave(place, NORMAL)
        elif kind == "call":
            self._leave(place, RAISE if answer == 1 else NORMAL)
        elif kind == "if":
            self.spot = self.source.entry(self.source.parts(place)[answer])
        elif kind == "while" and answer == 0:
            self._leave(place, NORMAL)
        elif kind == "while":
            self.spot = self.source.entry(self.source.parts(place)[0])
        elif kind == "final":
            self._leave(place, self.pending[place])
        else:
            # All others are written as the ways in which they are left.
            self._leave(place, self.source[place])

    def _leave(self, number, way):
        """Go on behind a statement that is left in a way."""
        final, way, self.spot = onward(self.source, number, way)
        if final is not None:
            self.pending[final] = way

    def now(self):
        """The place that is next, and the pending way of each of its layers; or the end and none."""
        if self.ended():
            return (self.spot, [])
        return (self.spot, [(layer, self.pending[layer]) for layer in self.source.layers(self.spot)])


def begin(code):
    """A run of a code that has done nothing yet."""
    return Walk(code, code.entry(0), {})


def follow(walk, answers):
    """Do places until a run ends or waits, with valid answers; tell them and how many were used."""
    visited = []
    used = 0
    while not walk.ended():
        answer = None
        if walk.asks():
            if used == len(answers):
                break
            answer = answers[used]
            used = used + 1
        visited.append(walk.spot)
        walk.step(answer)
    return (visited, used)


def run(code, answers):
    """The direct run of a code with answers."""
    check_answers(answers)
    walk = begin(code)
    visited, used = follow(walk, answers)
    return Run(visited, used, walk.spot if walk.ended() else "wait")


def moment(code, answers):
    """The place at which a run waits, and the pending ways of its layers; or the end and none."""
    check_answers(answers)
    walk = begin(code)
    follow(walk, answers)
    return walk.now()
