"""The examples e01 to e25 of the document, as they stand there."""

import re
import unittest

EXAMPLES = """
e01:

    >>> from finallycopies.code import Code
    >>> c = Code(('while', 'a', ('final', ('if', 'b', ('do', 'x'), ('break', 1)), ('do', 'y'))))
    >>> [len(c), c.kind(1), c.parts(1), c.parent(0), c.parent(5), c[4]]
    [6, 'final', [2, 5], None, 1, ('break', 1)]

e02:

    >>> from finallycopies.code import Code
    >>> c = Code(('while', 'a', ('final', ('if', 'b', ('do', 'x'), ('break', 1)), ('do', 'y'))))
    >>> [c.places(), c.entry(1), c.layers(5), c.layers(1), c.layers(2)]
    [[0, 1, 2, 3, 4, 5], 2, [1], [1], []]

e03:

    >>> from finallycopies.code import Code
    >>> Code(('seq', (('do', 'a'), ('break', 1))))
    raises InvalidCode(number=2)

e04:

    >>> from finallycopies.code import Code
    >>> from finallycopies.runs import run
    >>> c = Code(('while', 'a', ('final', ('if', 'b', ('do', 'x'), ('break', 1)), ('do', 'y'))))
    >>> r = run(c, [1, 1])
    >>> [r.visited, r.used, r.end]
    [[0, 2, 4, 5, 1], 2, 'end']

e05:

    >>> from finallycopies.code import Code
    >>> from finallycopies.runs import run
    >>> c = Code(('while', 'a', ('final', ('if', 'b', ('do', 'x'), ('break', 1)), ('do', 'y'))))
    >>> r = run(c, [1, 0])
    >>> [r.visited, r.used, r.end]
    [[0, 2, 3, 5, 1], 2, 'wait']

e06:

    >>> from finallycopies.code import Code
    >>> from finallycopies.runs import moment
    >>> c = Code(('while', 'a', ('final', ('if', 'b', ('do', 'x'), ('break', 1)), ('do', 'y'))))
    >>> g = Code(('final', ('call', 'x'), ('call', 'y')))
    >>> [moment(c, [1, 0]), moment(g, [1])]
    [(0, []), (2, [(0, ('raise',))])]

e07:

    >>> from finallycopies.code import Code
    >>> from finallycopies.ways import way_answers, ways, place_answers
    >>> c = Code(('while', 'a', ('final', ('if', 'b', ('do', 'x'), ('break', 1)), ('do', 'y'))))
    >>> [ways(c, 1), ways(c, 0), way_answers(c, 1, ('break', 1)), way_answers(c, 0, ('normal',)), place_answers(c, 1)]
    [[('break', 1), ('normal',)], [('normal',)], [1], [0], [1, 0]]

e08:

    >>> from finallycopies.code import Code
    >>> from finallycopies.ways import dead, reached
    >>> z = Code(('seq', (('return',), ('do', 'a'))))
    >>> [reached(z), dead(z)]
    [[1], [2]]

e09:

    >>> from finallycopies.code import Code
    >>> from finallycopies.routes import route
    >>> c = Code(('while', 'a', ('final', ('if', 'b', ('do', 'x'), ('break', 1)), ('do', 'y'))))
    >>> [route(c, 1, ('break', 1)), route(c, 4, ('break', 1)), route(c, 1, ('normal',))]
    [((), 'end'), ((1,), 'end'), ((), 0)]

e10:

    >>> from finallycopies.code import Code
    >>> from finallycopies.routes import behind, copies_here, sharing
    >>> c = Code(('while', 'a', ('final', ('if', 'b', ('do', 'x'), ('break', 1)), ('do', 'y'))))
    >>> [behind(c, 1), sharing(c, 1), copies_here(c, 1)]
    [[(('break', 1), ((), 'end')), (('normal',), ((), 0))], [[('break', 1)], [('normal',)]], 2]

e11:

    >>> from finallycopies.code import Code
    >>> from finallycopies.routes import copies_here, sharing
    >>> d = Code(('while', 'a', ('final', ('if', 'b', ('do', 'x'), ('continue', 1)), ('do', 'y'))))
    >>> [sharing(d, 1), copies_here(d, 1)]
    [[[('continue', 1), ('normal',)]], 1]

e12:

    >>> from finallycopies.code import Code
    >>> from finallycopies.routes import needed
    >>> n = Code(('final', ('call', 'x'), ('seq', (('if', 'y', ('do', 'z'), ('return',)), ('do', 'w')))))
    >>> [needed(n, 3), needed(n, 4), needed(n, 5), needed(n, 0)]
    [[0], [0], [], [0]]

e13:

    >>> from finallycopies.code import Code
    >>> from finallycopies.counts import all_moments, copies, most_copied, total
    >>> c = Code(('while', 'a', ('final', ('if', 'b', ('do', 'x'), ('break', 1)), ('do', 'y'))))
    >>> [copies(c, 5), copies(c, 0), total(c), all_moments(c), most_copied(c)]
    [2, 1, 8, 8, (2, 1)]

e14:

    >>> from finallycopies.code import Code
    >>> from finallycopies.counts import all_moments, copies, moments, total
    >>> n = Code(('final', ('call', 'x'), ('seq', (('if', 'y', ('do', 'z'), ('return',)), ('do', 'w')))))
    >>> [total(n), all_moments(n), copies(n, 5), moments(n, 5)]
    [10, 11, 1, 2]

e15:

    >>> from finallycopies.code import Code
    >>> from finallycopies.lowered import Lowered
    >>> c = Code(('while', 'a', ('final', ('if', 'b', ('do', 'x'), ('break', 1)), ('do', 'y'))))
    >>> low = Lowered(c)
    >>> t = low.trace([1, 1])
    >>> [low.total(), low.place(t[0][0]), low.place(t[0][4]), len(t[0]), t[1], t[2], low.address_after([0])]
    [8, 0, 1, 5, 2, 'end', 'end']

e16:

    >>> from finallycopies.code import Code
    >>> from finallycopies.tables import table
    >>> c = Code(('while', 'a', ('final', ('if', 'b', ('do', 'x'), ('break', 1)), ('do', 'y'))))
    >>> table(c)
    [(0, 'end', 1), (2, 2, 3), (3, 4), (4, 5), (5, 6), (5, 7), (1, 0), (1, 'end')]

e17:

    >>> from finallycopies.code import Code
    >>> from finallycopies.tables import check_table
    >>> c = Code(('while', 'a', ('final', ('if', 'b', ('do', 'x'), ('break', 1)), ('do', 'y'))))
    >>> check_table(c, [(0, 'end', 1), (2, 2, 3), (3, 4), (4, 4), (5, 5), (1, 0)])
    [1, 1]

e18:

    >>> from finallycopies.code import Code
    >>> from finallycopies.flags import dispatches, fewest_flags, total_with
    >>> c = Code(('while', 'a', ('final', ('if', 'b', ('do', 'x'), ('break', 1)), ('do', 'y'))))
    >>> [total_with(c, [1]), dispatches(c, [1], [1, 0, 1, 1]), fewest_flags(c, 8), fewest_flags(c, 6), fewest_flags(c, 5)]
    [6, 2, [], [1], None]

e19:

    >>> from finallycopies.code import Code
    >>> from finallycopies.leavings import arrives, droppers, leaving_route
    >>> c = Code(('while', 'a', ('final', ('if', 'b', ('do', 'x'), ('break', 1)), ('do', 'y'))))
    >>> q = Code(('final', ('return',), ('call', 'x')))
    >>> [leaving_route(c, 4), droppers(c, 4), leaving_route(q, 1), droppers(q, 1), arrives(q, 1)]
    [((1,), 'end'), [], ((0,), 'return'), [0], True]

e20:

    >>> from finallycopies.code import Code
    >>> from finallycopies.leavings import leaving_route, never_arriving
    >>> w = Code(('while', 'a', ('final', ('return',), ('break', 1))))
    >>> [leaving_route(w, 2), never_arriving(w)]
    [((1,), None), [2]]

e21:

    >>> from finallycopies.code import Code
    >>> from finallycopies.comparing import same_steps
    >>> c = Code(('while', 'a', ('final', ('if', 'b', ('do', 'x'), ('break', 1)), ('do', 'y'))))
    >>> d = Code(('while', 'a', ('final', ('if', 'b', ('do', 'x'), ('continue', 1)), ('do', 'y'))))
    >>> [same_steps(c, d), same_steps(c, c)]
    [[1, 1], None]

e22:

    >>> from finallycopies.code import Code
    >>> from finallycopies.comparing import without_dead
    >>> from finallycopies.texts import show
    >>> z = Code(('seq', (('return',), ('do', 'a'))))
    >>> c = Code(('while', 'a', ('final', ('if', 'b', ('do', 'x'), ('break', 1)), ('do', 'y'))))
    >>> [show(without_dead(z)), show(c)]
    ['seq 1 return', 'while a final if b do x break 1 do y']

e23:

    >>> from finallycopies.texts import read
    >>> read('if a do b')
    raises InvalidText(at=4)

e24:

    >>> from finallycopies.texts import read
    >>> read('while a break 2')
    raises InvalidCode(number=1)

e25:

    >>> from finallycopies.code import Code
    >>> from finallycopies.sessions import Session
    >>> c = Code(('while', 'a', ('final', ('if', 'b', ('do', 'x'), ('break', 1)), ('do', 'y'))))
    >>> s = Session(c)
    >>> [s.places(), s.answer(1), s.answer(0), s.places(), s.now(), s.answers()]
    [[], [0], [2, 3, 5, 1], [0, 2, 3, 5, 1], (0, []), [1, 0]]
"""


def told(error):
    """An error as the examples tell it: the class and the fields."""
    fields = ", ".join([f"{name}={value!r}" for name, value in vars(error).items()])
    return f"raises {error.__class__.__name__}({fields})"


def result(row, names):
    try:
        return repr(eval(row, names))
    except Exception as error:
        return told(error)


class Examples(unittest.TestCase):
    def check(self, session):
        """Do the rows of a session; each row behind one without the sign is its result."""
        names = {}
        rows = [row.strip() for row in session.split("\n") if row.strip()]
        self.assertFalse(rows[-1].startswith(">>>"))
        for row, wanted in zip(rows, rows[1:] + [""]):
            if not row.startswith(">>> "):
                continue
            if wanted.startswith(">>>"):
                exec(row[4:], names)
            else:
                self.assertEqual(result(row[4:], names), wanted)

    def test_all(self):
        parts = re.split(r"^e([0-9]{2}):$", EXAMPLES, flags=re.MULTILINE)
        numbers, sessions = parts[1::2], parts[2::2]
        self.assertEqual([int(number) for number in numbers], list(range(1, 26)))
        for number, session in zip(numbers, sessions):
            with self.subTest(example=number):
                self.check(session)


if __name__ == "__main__":
    unittest.main()
