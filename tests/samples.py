"""Codes and values that several tests use."""

import random

WHILE = ("while", "a", ("final", ("if", "b", ("do", "x"), ("break", 1)), ("do", "y")))

# One statement of each kind, and finals in bodies and in blocks.
MIXED = (
    "seq",
    (
        ("do", "a"),
        (
            "while",
            "b",
            (
                "while",
                "c",
                ("final", ("try", ("call", "d"), ("continue", 2)), ("final", ("raise",), ("break", 1))),
            ),
        ),
        ("seq", (("final", ("final", ("return",), ("do", "e")), ("if", "f", ("do", "g"), ("do", "h"))),)),
    ),
)


# The example n of the document, and a final in a block of which the return drops what is pending.
DROPPING = ("final", ("call", "x"), ("seq", (("if", "y", ("do", "z"), ("return",)), ("do", "w"))))


class Anything:
    """Equal to all values, and not hashable."""

    def __eq__(self, other):
        return True

    __hash__ = None


# None of these is the number of a statement of a code with less than 10**39 statements.
NO_NUMBERS = (True, False, None, "", "0", b"0", (), (0,), [], [0], {}, {0}, {0: 0}, 1j, object())
NO_NUMBERS += (-1, -2, -(10**39), 10**39, slice(0, 1), int, range(1), lambda: 0, Anything())

# None of these is a way, of whatever statement.
NO_WAYS = (None, True, 0, 1, "normal", b"normal", "", (), [], {}, {"normal"}, object(), tuple, Anything())
NO_WAYS += (["normal"], ["break", 1], ("break",), ("continue",), ("normal", 1), ("return", 1), ("end",))
NO_WAYS += (("break", True), ("continue", True), ("break", "1"), ("break", None), ("break", [1]), ("break", (1,)))
NO_WAYS += (("break", 1, []), ("normal", []), ("break", {}), ("raise", "raise"), ([], 1), ("break", "break"))
NO_WAYS += (("break", Anything()), (Anything(),), ("break", 1, 1), (["normal"],), ({},), (("normal",),), ("wait",))
NO_WAYS += (("break", 0), ("continue", 0), ("break", -1), ("normal", None), (1, "break"), ("do", "a"), ("call", "a"))


def all_of_size(size, whiles=1):
    """All statements of a size without jumps further than one while, with few names."""
    if size < 1:
        return []
    if size == 1:
        found = [("do", "a"), ("call", "a"), ("return",), ("raise",)]
        return found + ([("break", 1), ("continue", 1)] if whiles else [])
    found = [("while", "w", body) for body in all_of_size(size - 1, 1)]
    found += [("seq", (part,)) for part in all_of_size(size - 1, whiles)]
    for left in range(1, size - 1):
        for one in all_of_size(left, whiles):
            for other in all_of_size(size - 1 - left, whiles):
                found.append(("if", "i", one, other))
                found.append(("try", one, other))
                found.append(("final", one, other))
                found.append(("seq", (one, other)))
    return found


def chain(kind, count, inner):
    """A statement inside so many statements of a kind, one within another."""
    made = inner
    for _ in range(count):
        made = {
            "while": ("while", "w", made),
            "if": ("if", "i", made, ("do", "z")),
            "other": ("if", "i", ("do", "z"), made),
            "seq": ("seq", (made,)),
            "try": ("try", made, ("do", "z")),
            "body": ("final", made, ("do", "z")),
            "block": ("final", ("do", "z"), made),
        }[kind]
    return made


def flat(count, last=("do", "a")):
    """A seq with so many statements in all, itself included, the last one as told."""
    return ("seq", (("do", "a"),) * (count - 2) + (last,))


def random_leaf(chance, whiles):
    """A statement without parts; most are left in several ways, or in a way that leads far."""
    jump = chance.choice(["break", "continue"])
    if whiles and chance.randint(0, 2) == 0:
        return (jump, chance.randint(1, whiles))
    return chance.choice([("do", "a")] * 2 + [("call", "a")] * 3 + [("return",), ("raise",)])


def random_statement(chance, size, whiles=0):
    """A statement of a size with many finals; chance is a random.Random."""
    if size == 1:
        return random_leaf(chance, whiles)
    if size == 2:
        return ("while", "w", random_leaf(chance, whiles + 1))
    kind = chance.choice(["final", "final", "final", "final", "while", "seq", "if", "if", "try"])
    if kind == "while":
        return ("while", "w", random_statement(chance, size - 1, whiles + 1))
    left = chance.randint(1, size - 2)
    one = random_statement(chance, left, whiles)
    other = random_statement(chance, size - 1 - left, whiles)
    if kind == "seq":
        return ("seq", (one,) + (other[1] if other[0] == "seq" else (other,)))
    return ("if", "i", one, other) if kind == "if" else (kind, one, other)


def random_statements(seed, count, sizes, most_asking=7):
    """So many statements with several finals, each with few statements that ask for answers."""
    chance = random.Random(seed)
    found = []
    while len(found) < count:
        statement = random_statement(chance, chance.choice(sizes))
        words = repr(statement)
        asking = sum([words.count(f"'{kind}'") for kind in ("call", "if", "while")])
        if asking <= most_asking and words.count("'final'") >= 2:
            found.append(statement)
    return found
