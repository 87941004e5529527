"""The rules of point 10 once more, by recursion, and what a search through answers finds with them."""

import itertools

ASKING = ("call", "if", "while")


def inner(statement):
    if statement[0] == "seq":
        return list(statement[1])
    return [item for item in statement[1:] if isinstance(item, tuple)]


class Node:
    """A statement of a code with its number and the nodes of its parts."""

    def __init__(self, statement, number=0, layers=()):
        self.statement = statement
        self.kind = statement[0]
        self.number = number
        self.inside = layers
        self.layers = layers + (number,) if self.kind == "final" else layers
        self.parts = []
        self.size = 1
        for index, part in enumerate(inner(statement)):
            block = self.kind == "final" and index == 1
            node = Node(part, number + self.size, layers + (number,) if block else layers)
            self.parts.append(node)
            self.size += node.size

    def all(self):
        return [self] + [node for part in self.parts for node in part.all()]

    def is_place(self):
        return self.kind not in ("seq", "try")

    def asking(self):
        """How many statements in this one ask for answers."""
        return sum(node.kind in ASKING for node in self.all())


class Waiting(Exception):
    """No answer is left."""


class EndOfLayer(Exception):
    """A finally block that was begun before the search is left normally."""


class Doing:
    """Does a node with answers; log tells what happened, moments all moments before places."""

    def __init__(self, answers):
        self.answers = list(answers)
        self.used = 0
        self.visited = []
        self.pending = []
        self.moments = []
        self.log = []

    def come(self, node):
        self.moments.append((node.number, tuple(self.pending)))
        self.log.append(("come", node.number, None))
        answer = None
        if node.kind in ASKING:
            if self.used == len(self.answers):
                raise Waiting
            answer = self.answers[self.used]
            self.used += 1
        self.visited.append(node.number)
        return answer

    def perform(self, node):
        way = getattr(self, "do_" + node.kind, self.do_jump)(node)
        self.log.append(("left", node.number, way))
        return way

    def do_jump(self, node):
        self.come(node)
        return node.statement

    def do_do(self, node):
        self.come(node)
        return ("normal",)

    def do_call(self, node):
        return ("raise",) if self.come(node) else ("normal",)

    def do_if(self, node):
        return self.perform(node.parts[self.come(node)])

    def do_while(self, node):
        while self.come(node):
            way = self.round(self.perform(node.parts[0]))
            if way is not None:
                return way
        return ("normal",)

    def round(self, way):
        """How the while is left after its body is left in a way; None if it is done again."""
        if way in [("normal",), ("continue", 1)]:
            return None
        if way == ("break", 1):
            return ("normal",)
        return (way[0], way[1] - 1) if len(way) == 2 else way

    def do_seq(self, node, start=0):
        for part in node.parts[start:]:
            way = self.perform(part)
            if way != ("normal",):
                return way
        return ("normal",)

    def do_try(self, node):
        way = self.perform(node.parts[0])
        return self.perform(node.parts[1]) if way == ("raise",) else way

    def do_final(self, node):
        return self.after_body(node, self.perform(node.parts[0]))

    def after_body(self, node, way):
        self.log.append(("block", node.number, way))
        self.pending.append((node.number, way))
        left = self.perform(node.parts[1])
        if left == ("normal",):
            self.come(node)
            left = way
        else:
            self.log.append(("dropped", node.number, way))
        self.pending.pop()
        return left

    def resume(self, node, target):
        """Do a node from a place in it; the pending ways of the layers around it are not known."""
        if node.number == target:
            return self.perform(node)
        index = [part.number <= target < part.number + part.size for part in node.parts].index(True)
        way = self.resume(node.parts[index], target)
        if node.kind == "while":
            way = self.round(way)
            return self.perform(node) if way is None else way
        if node.kind == "seq" and way == ("normal",):
            return self.do_seq(node, index + 1)
        if node.kind == "try" and index == 0 and way == ("raise",):
            return self.perform(node.parts[1])
        if node.kind == "final" and index == 0:
            return self.after_body(node, way)
        if node.kind == "final" and way == ("normal",):
            raise EndOfLayer(node.number)
        return way


def lists_up_to(count):
    """All lists of answers with at most so many items, shorter ones first, the least first."""
    for length in range(count + 1):
        for answers in itertools.product([0, 1], repeat=length):
            yield list(answers)


def perform(node, answers):
    """A node done alone: (way or None if it waits, what was done)."""
    doing = Doing(answers)
    try:
        return doing.perform(node), doing
    except Waiting:
        return None, doing


def direct(statement, answers):
    """The run of a code: (visited, used, end, moment)."""
    way, doing = perform(Node(statement), answers)
    if way is None:
        place, pending = doing.moments[-1]
        return doing.visited, doing.used, "wait", (place, list(pending))
    end = "end" if way == ("normal",) else way[0]
    return doing.visited, doing.used, end, (end, [])


def leavings(node):
    """For each way of a node done alone the first list of answers, through all that can matter."""
    found = {}
    for answers in lists_up_to(node.asking()):
        way, doing = perform(node, answers)
        if way is not None and doing.used == len(answers):
            found.setdefault(way, answers)
    return found


def comings(statement):
    """For each place to which a run comes the first list of answers."""
    node = Node(statement)
    found = {}
    for answers in lists_up_to(node.asking()):
        for place, _ in perform(node, answers)[1].moments:
            found.setdefault(place, answers)
    return found


def needed(statement, place):
    """The layers at whose ends a run from a place comes out, with any answers."""
    node = Node(statement)
    if [inside.kind for inside in node.all()][place] == "final":
        return [place]
    found = set()
    for answers in lists_up_to(node.asking() + 1):
        try:
            Doing(answers).resume(node, place)
        except EndOfLayer as layer:
            found.add(layer.args[0])
        except Waiting:
            pass
    return sorted(found)


def follow(log, at):
    """The route that a log shows behind an index: (blocks, goal), or None if it does not show it all."""
    blocks = []
    while at < len(log):
        what, number, way = log[at]
        if what == "come":
            return tuple(blocks), number
        if what == "block":
            blocks.append(number)
            rest = [entry[:2] for entry in log[at:]]
            ends = [rest.index(entry) for entry in [("come", number), ("dropped", number)] if entry in rest]
            if not ends or rest[min(ends)][0] == "dropped":
                return None
            at += min(ends)
        elif number == 0 and what == "left":
            return tuple(blocks), "end" if way == ("normal",) else way[0]
        at += 1
    return None


def routes(statement):
    """The routes that runs show: for each (number, way) the set of them."""
    node = Node(statement)
    found = {}
    for answers in lists_up_to(node.asking() + 2):
        log = perform(node, answers)[1].log
        for at, (what, number, way) in enumerate(log):
            if what == "left":
                shown = follow(log, at if number == 0 else at + 1)
                found.setdefault((number, way), set())
                if shown is not None:
                    found[(number, way)].add(shown)
    return found


def successors(statement):
    """For each moment that runs come to, what follows it for no answer, or for 0 and for 1."""
    node = Node(statement)
    waiting = [[]]
    found = {}
    for answers in waiting:
        way, doing = perform(node, answers)
        behind = doing.moments + ([] if way is None else [way])
        used = 0
        for moment, following in zip(behind, behind[1:]):
            kind = node.all()[moment[0]].kind
            answer = answers[used] if kind in ASKING else None
            used += kind in ASKING
            found.setdefault(moment, {})[answer] = following
        if way is None and behind[-1] not in found:
            found[behind[-1]] = {}
            waiting.extend([answers + [0], answers + [1]])
    return found


def classes(statement):
    """The class of each moment: alike moments have the same one."""
    after = successors(statement)
    named = {moment: moment[0] for moment in after}
    while True:
        keys = {}
        for moment, steps in after.items():
            rest = [named.get(step, step) for _, step in sorted(steps.items(), key=str)]
            keys[moment] = (named[moment], tuple(rest))
        names = {key: index for index, key in enumerate(dict.fromkeys(keys.values()))}
        if len(names) == len(set(named.values())):
            return named
        named = {moment: names[keys[moment]] for moment in after}


def can_end(statement, final):
    """Whether the block of a final can be left normally."""
    return ("normal",) in leavings(Node(statement).all()[final].parts[1])
