"""Whether two codes have the same steps, and a code without what is dead."""

from finallycopies.arrivals import beginnings
from finallycopies.code import Code, head_of, statement_of
from finallycopies.errors import LimitExceeded
from finallycopies.lowered import Lowered
from finallycopies.outcomes import Outcomes

MOST_MET = 100
SHOWN = ("do", "call", "if", "while")


def shown(code, places):
    """The shown steps among places that are done: their kinds and names."""
    return [(code.kind(place), code[place][1]) for place in places if code.kind(place) in SHOWN]


def stretch(low, address, answers):
    """What a run does from an address on: (its shown steps, the text of its end), and where it is then."""
    done, _, item = low.follow(address, answers)
    steps = shown(low.code(), [low.place(each) for each in done])
    return ((steps, item if isinstance(item, str) else "wait"), item)


def same_steps(one, other):
    """None if two codes have the same steps for all answers, otherwise the first shortest with which not."""
    lows = (Lowered(one), Lowered(other))
    # Answers, and the addresses at which both runs waited before the last one of them; shorter
    # answers come first.
    tried = [([], lows[0].start(), lows[1].start())]
    met = {}
    at = 0
    while at < len(tried):
        answers, mine, theirs = tried[at]
        at = at + 1
        told, mine = stretch(lows[0], mine, answers[-1:])
        heard, theirs = stretch(lows[1], theirs, answers[-1:])
        if told != heard:
            return answers
        if isinstance(mine, str) or (mine, theirs) in met:
            continue
        met[(mine, theirs)] = True
        if len(met) > MOST_MET:
            raise LimitExceeded(MOST_MET)
        tried.append((answers + [0], mine, theirs))
        tried.append((answers + [1], mine, theirs))
    return None


def kept_with(statement, parts):
    """A statement with those of its parts that are kept."""
    head = head_of(statement)
    if head == ("try",) and len(parts) == 1:
        return parts[0]
    return statement_of(head, parts)


def without_dead(code):
    """The code without the parts of seqs and the handlers that no run begins."""
    begun = beginnings(Outcomes(code), {})
    kept = {}
    # In preorder the parts of a statement come behind it.
    for number in reversed(range(len(code))):
        if begun[number] is not None:
            parts = [kept[part] for part in code.parts(number) if part in kept]
            kept[number] = kept_with(code[number], parts)
    return Code(kept[0])
