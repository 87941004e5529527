"""Statements with many finals one within another, and so with very many addresses."""

# Left in three ways.
THREE = ("if", "a", ("call", "b"), ("return",))


def tower(count, body):
    """Finals in the blocks of finals; each raise comes to a handler in the block around it."""
    made = ("do", "z")
    for _ in range(count):
        made = ("final", body, ("try", made, ("do", "h")))
    return made


def breaking(count):
    """Finals in whiles in the blocks of finals; each body can break to the end of two blocks around."""
    made = ("do", "z")
    for _ in range(count):
        body = ("if", "a", ("break", 1), ("if", "b", ("break", 2), ("do", "x")))
        made = ("final", body, ("while", "w", made))
    return ("while", "v", ("while", "w", made))


def nested(leaves):
    """Ifs one within another that choose one of some statements."""
    made = leaves[-1]
    for leaf in leaves[-2::-1]:
        made = ("if", "i", leaf, made)
    return made


def scattered(outer, inner):
    """Towers in which the layers that are known together are nearly any of the outer ones."""
    made = nested([("break", number) for number in range(1, inner + 1)] + [("return",)])
    for level in range(outer + inner, 0, -1):
        body = ("return",)
        if level > outer:
            body = nested([("break", level - target) for target in range(1, outer + 1)] + [("return",)])
        made = ("final", body, ("while", "w", made))
    return made
