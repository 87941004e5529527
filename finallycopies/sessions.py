"""Sessions: a run that is answered step by step."""

from finallycopies.errors import InvalidAnswers, InvalidBound, LimitExceeded, NotWaiting
from finallycopies.lowered import Lowered
from finallycopies.runs import begin, follow, is_answer
from finallycopies.wholes import is_integer

MOST_GIVEN = 200


class Session:
    """A run of a code that waits for its next answer, or has ended."""

    def __init__(self, code):
        self._source = code
        self._given = []
        self._walk = begin(code)
        self._visited = follow(self._walk, [])[0]
        # Made when the first address is asked for.
        self._low = None

    def __eq__(self, other):
        return isinstance(other, Session) and self._source == other._source and self._given == other._given

    def answer(self, value):
        """Add an answer; the list of the places that are done then."""
        if not is_answer(value):
            raise InvalidAnswers(-1)
        if self._walk.ended():
            raise NotWaiting(self._walk.spot)
        if len(self._given) >= MOST_GIVEN:
            raise LimitExceeded(MOST_GIVEN)
        self._given.append(value)
        done = follow(self._walk, [value])[0]
        self._visited.extend(done)
        return done

    def undo(self, count):
        """Remove so many of the last answers."""
        if not is_integer(count) or not 0 <= count <= len(self._given):
            raise InvalidBound(count)
        self._given = self._given[: len(self._given) - count]
        self._walk = begin(self._source)
        self._visited = follow(self._walk, self._given)[0]

    def code(self):
        """The code that is run."""
        return self._source

    def answers(self):
        """The list of the answers so far."""
        return list(self._given)

    def places(self):
        """The list of all places that are done so far."""
        return list(self._visited)

    def now(self):
        """The place at which the run waits, and the pending ways of its layers; or the end and none."""
        return self._walk.now()

    def address(self):
        """The address at which the run waits, or the text of its end."""
        if self._walk.ended():
            return self._walk.spot
        if self._low is None:
            self._low = Lowered(self._source)
        return self._low.address_of(self._walk.spot, self._walk.pending)
