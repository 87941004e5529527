"""Codes as texts: the words of the statements in preorder."""

from finallycopies.code import NAMED, SIZES, Code, head_of, is_name, statement_of
from finallycopies.errors import InvalidText, LimitExceeded

MOST_WORDS = 2000
MOST_NUMBER = 400
# Statements of which the text is one word and the texts of the parts.
BARE = ("return", "raise", "try", "final")


def show(code):
    """The text of a code."""
    heads = [head_of(code[number]) for number in range(len(code))]
    return " ".join([str(item) for head in heads for item in head])


def is_number(word):
    """Whether a word is a number from 1 to 400 as it is written in a text."""
    # A long word is not made a number: Python itself limits how many digits that may have.
    if not 1 <= len(word) <= len(str(MOST_NUMBER)) or word[0] == "0":
        return False
    return all(["0" <= digit <= "9" for digit in word]) and int(word) <= MOST_NUMBER


def head_at(words, at):
    """The head of the statement of which the text begins with the word at an index."""
    kind = words[at]
    if kind not in SIZES:
        raise InvalidText(at)
    if kind in BARE:
        return (kind,)
    if at + 1 < len(words):
        word = words[at + 1]
        if kind in NAMED and is_name(word):
            return (kind, word)
        if kind not in NAMED and is_number(word):
            return (kind, int(word))
    # The second word is wrong, or it is lacking and the number of words is the same index.
    raise InvalidText(at + 1)


def many_parts(head):
    """How many parts the statements with a head have."""
    return head[1] if head[0] == "seq" else SIZES[head[0]] - len(head)


def heads_in(words):
    """The heads of the statements of a text, in preorder."""
    heads = []
    lacking = 1
    at = 0
    while at < len(words):
        if lacking == 0:
            raise InvalidText(at)
        head = head_at(words, at)
        heads.append(head)
        lacking = lacking - 1 + many_parts(head)
        at = at + len(head)
    if lacking > 0:
        raise InvalidText(len(words))
    return heads


def statement_with(heads):
    """The statement of which the heads in preorder are these."""
    # Statements whose heads were taken, the last ones first, and that are not yet parts.
    waiting = []
    for head in heads[::-1]:
        first = len(waiting) - many_parts(head)
        parts = waiting[first:][::-1]
        del waiting[first:]
        waiting.append(statement_of(head, parts))
    return waiting[0]


def read(text):
    """The code with a text."""
    if not isinstance(text, str):
        raise InvalidText(-1)
    words = text.split(" ")
    if len(words) > MOST_WORDS:
        raise LimitExceeded(MOST_WORDS)
    return Code(statement_with(heads_in(words)))
