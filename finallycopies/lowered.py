"""The least lowered program of a code, by its addresses; it is not built."""

from finallycopies.arrivals import arrivals
from finallycopies.counts import Counts, innermost
from finallycopies.errors import InvalidNumber
from finallycopies.runs import ASKING, Walk, check_answers
from finallycopies.wholes import is_integer


class Lowered:
    """The least lowered program of a code; its addresses are the integers from 0 to total - 1.

    The addresses of a place come one after another, those of a lesser place first. At one place
    they are in the order of the routes behind the innermost layer that is known there, those with
    the same one in the order of the routes behind the next layer, and so on.
    """

    def __init__(self, code):
        self._source = code
        self._counts = Counts(code)
        # By reached place, ascending: the first of its addresses.
        self._firsts = {}
        self._many = 0
        for place in self._counts.reached:
            self._firsts[place] = self._many
            self._many = self._many + self._counts.copies(place, 0)
        # The rows that were asked for, by address.
        self._rows = {}

    def _require_address(self, address):
        """Raise an error unless any object is an address."""
        if not is_integer(address) or not 0 <= address < self._many:
            raise InvalidNumber(address)

    def code(self):
        """The code of which this is the program."""
        return self._source

    def total(self):
        """The number of addresses."""
        return self._many

    def start(self):
        """The address of the start."""
        return self._firsts[self._source.entry(0)]

    def place(self, address):
        """The place of an address."""
        self._require_address(address)
        return max([place for place, first in self._firsts.items() if first <= address])

    def known(self, address):
        """What an address stands for: the layers that count there, the innermost first, with their routes."""
        place = self.place(address)
        index = address - self._firsts[place]
        layers = self._counts.needs(place)
        found = []
        while layers > 0:
            inner, others = innermost(layers)
            follows, index = self._choice(inner, others, index)
            found.append((inner, follows))
            layers = others | self._counts.further(inner)[follows]
        return found

    def _choice(self, inner, others, index):
        """The route behind the innermost layer for an index of an address, and the index among those with it."""
        for follows, further in self._counts.further(inner).items():
            many = self._counts.addresses(others | further, 0)
            if index < many:
                return (follows, index)
            index = index - many
        return (None, index)

    def address_of(self, place, pending):
        """The address of a moment; the ways of layers that do not count may be left out."""
        address = self._firsts[place]
        layers = self._counts.needs(place)
        while layers > 0:
            inner, others = innermost(layers)
            routes = self._counts.further(inner)
            own = self._counts.behind(inner)[pending[inner]]
            for follows in routes:
                if follows == own:
                    break
                address = address + self._counts.addresses(others | routes[follows], 0)
            layers = others | routes[own]
        return address

    def _pending(self, address):
        """For the layers that count at an address ways that can be pending there."""
        found = {}
        for layer, follows in self.known(address):
            found[layer] = min([way for way, other in self._counts.behind(layer).items() if other == follows])
        return found

    def row(self, address):
        """The place of an address, and the next address or the end, for both answers if the place asks."""
        self._require_address(address)
        if address not in self._rows:
            place = self.place(address)
            pending = self._pending(address)
            answers = [0, 1] if self._source.kind(place) in ASKING else [None]
            items = [self._item_behind(place, pending, answer) for answer in answers]
            self._rows[address] = (place, *items)
        return self._rows[address]

    def _item_behind(self, place, pending, answer):
        """The address behind a place, or the text of the end."""
        walk = Walk(self._source, place, pending)
        walk.step(answer)
        return walk.spot if walk.ended() else self.address_of(walk.spot, walk.pending)

    def follow(self, item, answers):
        """Do addresses from one on until the run ends or waits, with valid answers.

        A tuple: the addresses that are done, how many answers are used, and the address at which
        the run waits, or the text of its end.
        """
        done = []
        used = 0
        while not isinstance(item, str):
            row = self.row(item)
            answer = 0
            if len(row) > 2:
                if used == len(answers):
                    break
                answer = answers[used]
                used = used + 1
            done.append(item)
            item = row[1 + answer]
        return (done, used, item)

    def trace(self, answers):
        """The run by addresses: those that are done, how many answers are used, and the text of the end."""
        check_answers(answers)
        done, used, item = self.follow(self.start(), answers)
        return (done, used, item if isinstance(item, str) else "wait")

    def address_after(self, answers):
        """The address at which the run waits when all answers are used, or the text of its end."""
        check_answers(answers)
        return self.follow(self.start(), answers)[2]

    def answers_to(self, address):
        """Answers with which the run does an address or waits at it."""
        place = self.place(address)
        return arrivals(self._counts.outcomes, self._pending(address))[place]
