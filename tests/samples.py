"""Codes and values that several tests use."""

WHILE = ("while", "a", ("final", ("if", "b", ("do", "x"), ("break", 1)), ("do", "y")))

# One statement of each kind, and finals in bodies and in blocks.
MIXED = (
    "seq",
    (
        ("do", "a"),
        (
            "while",
            "b",
            (
                "while",
                "c",
                ("final", ("try", ("call", "d"), ("continue", 2)), ("final", ("raise",), ("break", 1))),
            ),
        ),
        ("seq", (("final", ("final", ("return",), ("do", "e")), ("if", "f", ("do", "g"), ("do", "h"))),)),
    ),
)


class Anything:
    """Equal to all values, and not hashable."""

    def __eq__(self, other):
        return True

    __hash__ = None


def all_of_size(size, whiles=1):
    """All statements of a size without jumps further than one while, with few names."""
    if size < 1:
        return []
    if size == 1:
        found = [("do", "a"), ("call", "a"), ("return",), ("raise",)]
        return found + ([("break", 1), ("continue", 1)] if whiles else [])
    found = [("while", "w", body) for body in all_of_size(size - 1, 1)]
    found += [("seq", (part,)) for part in all_of_size(size - 1, whiles)]
    for left in range(1, size - 1):
        for one in all_of_size(left, whiles):
            for other in all_of_size(size - 1 - left, whiles):
                found.append(("if", "i", one, other))
                found.append(("try", one, other))
                found.append(("final", one, other))
                found.append(("seq", (one, other)))
    return found


def chain(kind, count, inner):
    """A statement inside so many statements of a kind, one within another."""
    made = inner
    for _ in range(count):
        made = {
            "while": ("while", "w", made),
            "if": ("if", "i", made, ("do", "z")),
            "other": ("if", "i", ("do", "z"), made),
            "seq": ("seq", (made,)),
            "try": ("try", made, ("do", "z")),
            "body": ("final", made, ("do", "z")),
            "block": ("final", ("do", "z"), made),
        }[kind]
    return made


def flat(count, last=("do", "a")):
    """A seq with so many statements in all, itself included, the last one as told."""
    return ("seq", (("do", "a"),) * (count - 2) + (last,))
