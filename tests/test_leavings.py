"""Points 2 and 29: leavings that are dropped, and those that arrive."""

import inspect
import unittest

import reference
from finallycopies import leavings as module
from finallycopies.code import Code
from finallycopies.errors import InvalidNumber
from finallycopies.leavings import arrives, droppers, leaving_route, never_arriving
from finallycopies.routes import route
from finallycopies.ways import reached
from samples import DROPPING, MIXED, NO_NUMBERS, WHILE, all_of_size, chain, random_statements
from towers import THREE, breaking, tower

LEAVERS = ("break", "continue", "return", "raise", "call")
# Each leaver in a while that is statement 0, and where its leaving goes.
GOALS = ((("break", 1), "end"), (("continue", 1), 0), (("return",), "return"), (("raise",), "raise"))
SAMPLES = [WHILE, MIXED, DROPPING, tower(2, THREE), breaking(2)] + random_statements(45, 200, range(4, 18), 8)


def leavers(code):
    return [number for number in range(len(code)) if code.kind(number) in LEAVERS]


def way_of(code, place):
    return ("raise",) if code.kind(place) == "call" else code[place]


def found(statement, place):
    """All that is told of a leaver."""
    code = Code(statement)
    return (leaving_route(code, place), droppers(code, place), arrives(code, place))


class Examples(unittest.TestCase):
    def test_e19(self):
        self.assertEqual(found(WHILE, 4), (((1,), "end"), [], True))
        self.assertEqual(found(("final", ("return",), ("call", "x")), 1), (((0,), "return"), [0], True))

    def test_e20(self):
        w = Code(("while", "a", ("final", ("return",), ("break", 1))))
        self.assertEqual([leaving_route(w, 2), never_arriving(w)], [((1,), None), [2]])


class Interface(unittest.TestCase):
    def test_functions_stand_in_the_file(self):
        for name in ("leaving_route", "droppers", "arrives", "never_arriving"):
            made = getattr(module, name)
            self.assertEqual(made.__module__, "finallycopies.leavings")
            names = ["code"] if name == "never_arriving" else ["code", "place"]
            self.assertEqual(list(inspect.signature(made).parameters), names)

    def test_arguments_by_name(self):
        c = Code(WHILE)
        self.assertEqual(leaving_route(place=4, code=c), ((1,), "end"))
        self.assertEqual([droppers(place=4, code=c), arrives(place=4, code=c)], [[], True])
        self.assertEqual(never_arriving(code=c), [])

    def test_kinds_of_values(self):
        c = Code(WHILE)
        self.assertIsInstance(leaving_route(c, 4), tuple)
        self.assertIsInstance(leaving_route(c, 4)[0], tuple)
        self.assertIsInstance(droppers(c, 4), list)
        self.assertIs(arrives(c, 4), True)
        self.assertIs(arrives(Code(("while", "a", ("final", ("return",), ("break", 1)))), 2), False)
        self.assertIsInstance(never_arriving(c), list)


class Search(unittest.TestCase):
    """Compared with what runs show."""

    def check(self, statement):
        code = Code(statement)
        shown = reference.routes(statement)
        nodes = reference.Node(statement).all()
        never = []
        for place in leavers(code):
            blocks, goal = leaving_route(code, place)
            if code.kind(place) != "call" or place in reached(code):
                self.assertEqual((blocks, goal), route(code, place, way_of(code, place)))
            if goal is not None:
                # Otherwise no run shows the whole route.
                self.assertLessEqual(shown.get((place, way_of(code, place)), set()), {(blocks, goal)}, statement)
            dropping = [final for final in blocks if set(reference.leavings(nodes[final].parts[1])) - {("normal",)}]
            self.assertEqual(droppers(code, place), sorted(dropping), statement)
            stuck = [final for final in blocks if not reference.can_end(statement, final)]
            self.assertEqual(arrives(code, place), not stuck, statement)
            self.assertEqual(stuck, [] if goal is not None else [blocks[-1]])
            if stuck and place in reference.comings(statement):
                never.append(place)
        self.assertEqual(never_arriving(code), never, statement)

    def test_small_codes(self):
        for size in range(1, 5):
            for statement in all_of_size(size, 0):
                self.check(statement)

    def test_larger_codes(self):
        for statement in SAMPLES:
            self.check(statement)


class Leavings(unittest.TestCase):
    def test_each_kind_in_a_body(self):
        for leaver, goal in GOALS:
            statement = ("while", "a", ("final", leaver, ("do", "b")))
            self.assertEqual(found(statement, 2), (((1,), goal), [], True))
        statement = ("while", "a", ("final", ("call", "c"), ("do", "b")))
        self.assertEqual(found(statement, 2), (((1,), "raise"), [], True))

    def test_each_kind_in_a_block(self):
        for leaver, goal in GOALS:
            statement = ("while", "a", ("final", ("do", "b"), leaver))
            self.assertEqual(found(statement, 3), (((), goal), [], True))
        statement = ("while", "a", ("final", ("do", "b"), ("call", "c")))
        self.assertEqual(found(statement, 3), (((), "raise"), [], True))

    def test_each_kind_in_a_handler(self):
        for leaver, goal in GOALS:
            statement = ("while", "a", ("final", ("try", ("call", "b"), leaver), ("do", "c")))
            self.assertEqual(found(statement, 4), (((1,), goal), [], True))
            # The leaving of the call comes to the handler.
            self.assertEqual(found(statement, 3), (((), 4), [], True))
        statement = ("try", ("call", "a"), ("call", "b"))
        self.assertEqual([found(statement, 1), found(statement, 2)], [(((), 2), [], True), (((), "raise"), [], True)])

    def test_further_whiles(self):
        statement = ("while", "a", ("final", ("while", "b", ("final", ("break", 2), ("do", "c"))), ("do", "d")))
        self.assertEqual(found(statement, 4), (((3, 1), "end"), [], True))
        statement = ("while", "a", ("final", ("while", "b", ("final", ("continue", 2), ("do", "c"))), ("do", "d")))
        self.assertEqual(found(statement, 4), (((3, 1), 0), [], True))

    def test_the_end_of_a_block_around(self):
        statement = ("final", ("do", "a"), ("while", "b", ("break", 1)))
        self.assertEqual(found(statement, 3), (((), 0), [], True))

    def test_blocks_that_are_sometimes_left_normally(self):
        sometimes = ("if", "c", ("do", "d"), ("raise",))
        statement = ("final", ("final", ("return",), ("call", "a")), ("final", ("do", "b"), sometimes))
        self.assertEqual(found(statement, 2), (((1, 0), "return"), [0, 1], True))
        statement = ("final", ("final", ("return",), ("do", "a")), sometimes)
        self.assertEqual(found(statement, 2), (((1, 0), "return"), [0], True))
        statement = ("final", ("final", ("return",), sometimes), ("do", "a"))
        self.assertEqual(found(statement, 2), (((1, 0), "return"), [1], True))

    def test_blocks_that_are_never_left_normally(self):
        statement = ("final", ("final", ("return",), ("call", "a")), ("seq", (("raise",), ("do", "b"))))
        self.assertEqual(found(statement, 2), (((1, 0), None), [0, 1], False))
        statement = ("final", ("final", ("return",), ("raise",)), ("do", "b"))
        # The block of 0 does not begin with this leaving.
        self.assertEqual(found(statement, 2), (((1,), None), [1], False))
        self.assertEqual(never_arriving(Code(statement)), [2])

    def test_leavers_that_no_run_comes_to(self):
        leaver = ("seq", (("return",), ("call", "a"), ("raise",)))
        code = Code(("final", leaver, ("raise",)))
        for place in (2, 3, 4):
            self.assertEqual([leaving_route(code, place), droppers(code, place)], [((0,), None), [0]])
            self.assertIs(arrives(code, place), False)
        self.assertEqual(never_arriving(code), [2])
        code = Code(("seq", (("do", "b"), ("try", ("do", "c"), ("final", ("return",), ("raise",))))))
        self.assertEqual([leaving_route(code, 5), arrives(code, 5), never_arriving(code)], [((4,), None), False, []])

    def test_calls_and_others_together(self):
        parts = (("call", "a"), ("if", "b", ("raise",), ("break", 1)), ("call", "c"))
        code = Code(("while", "w", ("final", ("seq", parts), ("continue", 1))))
        self.assertEqual([leavers(code), never_arriving(code)], [[3, 5, 6, 7, 8], [3, 5, 6]])
        self.assertEqual([arrives(code, place) for place in leavers(code)], [False, False, False, False, True])

    def test_a_hundred_levels(self):
        code = Code(chain("body", 99, ("return",)))
        self.assertEqual(leaving_route(code, 99), (tuple(range(98, -1, -1)), "return"))
        self.assertEqual([droppers(code, 99), never_arriving(code)], [[], []])
        made = ("return",)
        for _ in range(99):
            made = ("final", made, ("call", "a"))
        self.assertEqual(droppers(Code(made), 99), list(range(99)))

    def test_what_is_no_leaver(self):
        for statement in (MIXED, tower(25, THREE)):
            code = Code(statement)
            others = [number for number in range(len(code)) if code.kind(number) not in LEAVERS]
            for value in NO_NUMBERS + tuple(others) + (len(code),):
                for asked in (leaving_route, droppers, arrives):
                    with self.assertRaises(InvalidNumber) as caught:
                        asked(code, value)
                    self.assertIs(caught.exception.number, value)


class NewResults(unittest.TestCase):
    def test_changing_a_result_changes_no_later_one(self):
        code = Code(("final", ("final", ("return",), ("call", "a")), ("seq", (("raise",), ("do", "b")))))
        for asked in (lambda: droppers(code, 2), lambda: never_arriving(code)):
            before = list(asked())
            asked().insert(0, 7)
            self.assertEqual(asked(), before)

    def test_equal_codes_give_equal_results(self):
        for statement in SAMPLES[:30]:
            one, other = Code(statement), Code(statement)
            self.assertEqual(never_arriving(one), never_arriving(other))
            for place in leavers(one):
                self.assertEqual(leaving_route(one, place), leaving_route(other, place))
                self.assertEqual(droppers(one, place), droppers(other, place))


if __name__ == "__main__":
    unittest.main()
