"""Points 2, 16, 17 and 18: what is behind statements and finals, and the layers that are needed."""

import inspect
import unittest

import reference
from finallycopies import routes as module
from finallycopies.code import Code
from finallycopies.errors import InvalidNumber, InvalidWay
from finallycopies.routes import behind, copies_here, needed, route, sharing
from finallycopies.ways import ways
from samples import DROPPING, MIXED, NO_NUMBERS, NO_WAYS, WHILE, all_of_size, chain, random_statements

NORMAL = ("normal",)
RAISE = ("raise",)
RETURN = ("return",)
# Its body can be left in four ways.
CHOICE = ("if", "b", ("call", "c"), ("if", "d", ("break", 1), ("return",)))


def finals(code):
    return [number for number in range(len(code)) if code.kind(number) == "final"]


class Examples(unittest.TestCase):
    def test_e09(self):
        c = Code(WHILE)
        found = [route(c, 1, ("break", 1)), route(c, 4, ("break", 1)), route(c, 1, ("normal",))]
        self.assertEqual(found, [((), "end"), ((1,), "end"), ((), 0)])

    def test_e10(self):
        c = Code(WHILE)
        self.assertEqual(behind(c, 1), [(("break", 1), ((), "end")), (("normal",), ((), 0))])
        self.assertEqual([sharing(c, 1), copies_here(c, 1)], [[[("break", 1)], [("normal",)]], 2])

    def test_e11(self):
        d = Code(("while", "a", ("final", ("if", "b", ("do", "x"), ("continue", 1)), ("do", "y"))))
        self.assertEqual([sharing(d, 1), copies_here(d, 1)], [[[("continue", 1), ("normal",)]], 1])
        self.assertEqual(behind(d, 1), [(("continue", 1), ((), 0)), (("normal",), ((), 0))])

    def test_e12(self):
        n = Code(DROPPING)
        self.assertEqual([needed(n, 3), needed(n, 4), needed(n, 5), needed(n, 0)], [[0], [0], [], [0]])

    def test_the_example_of_point_18(self):
        self.assertEqual(needed(Code(WHILE), 5), [1])


class Interface(unittest.TestCase):
    def test_functions_stand_in_the_file(self):
        for name in ("route", "behind", "sharing", "copies_here", "needed"):
            self.assertEqual(getattr(module, name).__module__, "finallycopies.routes")

    def test_names_of_arguments(self):
        wanted = {route: ["code", "number", "way"], needed: ["code", "place"]}
        wanted.update({behind: ["code", "final"], sharing: ["code", "final"], copies_here: ["code", "final"]})
        for made, names in wanted.items():
            self.assertEqual(list(inspect.signature(made).parameters), names)

    def test_arguments_by_name(self):
        c = Code(WHILE)
        self.assertEqual(route(way=("break", 1), number=4, code=c), ((1,), "end"))
        self.assertEqual(behind(final=1, code=c), behind(c, 1))
        self.assertEqual(sharing(final=1, code=c), sharing(c, 1))
        self.assertEqual(copies_here(final=1, code=c), 2)
        self.assertEqual(needed(place=5, code=c), [1])


class Routes(unittest.TestCase):
    def test_the_end(self):
        for statement in (("do", "a"), ("return",), ("raise",)):
            way = NORMAL if statement[0] == "do" else statement
            wanted = "end" if statement[0] == "do" else statement[0]
            self.assertEqual(route(Code(statement), 0, way), ((), wanted))

    def test_the_next_place(self):
        code = Code(("seq", (("do", "a"), ("final", ("try", ("do", "b"), ("do", "c")), ("do", "d")), ("do", "e"))))
        self.assertEqual(route(code, 1, NORMAL), ((), 4))
        self.assertEqual(route(code, 4, NORMAL), ((2,), 7))
        self.assertEqual(route(code, 2, NORMAL), ((), 7))
        self.assertEqual(route(code, 7, NORMAL), ((), "end"))

    def test_the_while_and_what_is_around_it(self):
        choice = ("if", "c", ("break", 1), ("if", "d", ("break", 2), ("continue", 2)))
        code = Code(("while", "a", ("while", "b", choice)))
        found = [route(code, number, code[number]) for number in (3, 5, 6)]
        self.assertEqual(found, [((), 0), ((), "end"), ((), 0)])
        self.assertEqual(route(code, 1, ("break", 1)), ((), "end"))
        self.assertEqual(route(code, 1, ("continue", 1)), ((), 0))
        self.assertEqual(route(code, 1, NORMAL), ((), 0))

    def test_the_handler(self):
        code = Code(("try", ("seq", (("call", "a"), ("do", "b"))), ("seq", (("try", ("raise",), ("do", "c")),))))
        self.assertEqual([route(code, 2, RAISE), route(code, 2, NORMAL)], [((), 6), ((), 3)])
        self.assertEqual([route(code, 6, RAISE), route(code, 1, RAISE)], [((), 7), ((), 6)])
        self.assertEqual(route(code, 7, NORMAL), ((), "end"))
        code = Code(("try", ("do", "a"), ("raise",)))
        self.assertEqual(route(code, 2, RAISE), ((), "raise"))

    def test_several_blocks(self):
        code = Code(chain("body", 3, ("call", "a")))
        self.assertEqual(route(code, 3, NORMAL), ((2, 1, 0), "end"))
        self.assertEqual(route(code, 3, RAISE), ((2, 1, 0), "raise"))
        self.assertEqual(route(code, 1, RAISE), ((0,), "raise"))
        self.assertEqual(route(code, 0, RAISE), ((), "raise"))

    def test_a_way_changes_at_a_while(self):
        inner = ("while", "a", ("final", ("while", "b", ("final", ("break", 2), ("do", "c"))), ("do", "d")))
        code = Code(("seq", (inner, ("do", "e"))))
        self.assertEqual(route(code, 5, ("break", 2)), ((4, 2), 8))
        self.assertEqual(route(code, 3, ("break", 1)), ((2,), 8))
        self.assertEqual(route(code, 3, NORMAL), ((2,), 1))

    def test_the_end_of_a_block(self):
        code = Code(("final", ("do", "a"), ("seq", (("do", "b"), ("final", ("call", "c"), ("do", "d"))))))
        self.assertEqual(route(code, 5, NORMAL), ((4,), 0))
        self.assertEqual(route(code, 5, RAISE), ((4,), "raise"))
        self.assertEqual([route(code, 6, NORMAL), route(code, 3, NORMAL)], [((), 4), ((), 5)])
        self.assertEqual([route(code, 4, NORMAL), route(code, 2, NORMAL)], [((), 0), ((), 0)])

    def test_a_block_that_is_never_left_normally(self):
        code = Code(("while", "a", ("final", ("return",), ("break", 1))))
        self.assertEqual(route(code, 2, RETURN), ((1,), None))
        self.assertEqual(route(code, 3, ("break", 1)), ((), "end"))
        inner = ("final", ("call", "a"), ("do", "b"))
        code = Code(("final", ("final", inner, ("seq", (("raise",), ("do", "c")))), ("do", "d")))
        for way in (NORMAL, RAISE):
            self.assertEqual(route(code, 3, way), ((2, 1), None))
        self.assertEqual(route(code, 6, RAISE), ((0,), "raise"))

    def test_a_block_that_can_be_left_normally_too(self):
        code = Code(("final", ("return",), ("call", "a")))
        self.assertEqual(route(code, 1, RETURN), ((0,), "return"))

    def test_statements_that_no_run_begins(self):
        code = Code(("while", "a", ("seq", (("return",), ("final", ("continue", 1), ("do", "b"))))))
        self.assertEqual(route(code, 4, ("continue", 1)), ((3,), 0))
        self.assertEqual(route(code, 5, NORMAL), ((), 3))

    def test_the_number_is_looked_at_first(self):
        for value in NO_NUMBERS + (6,):
            for way in (("normal",), None, [], ("break", True)):
                with self.assertRaises(InvalidNumber) as caught:
                    route(Code(WHILE), value, way)
                self.assertIs(caught.exception.number, value)

    def test_what_is_no_way_of_the_statement(self):
        code = Code(WHILE)
        others = [("break", 1), ("break", 2), ("continue", 1), NORMAL, RAISE, RETURN, ("break", 10**39)]
        for number in range(len(code)):
            for value in list(NO_WAYS) + [way for way in others if way not in ways(code, number)]:
                with self.subTest(value=value, number=number):
                    with self.assertRaises(InvalidWay) as caught:
                        route(code, number, value)
                    self.assertIs(caught.exception.way, value)


class Search(unittest.TestCase):
    """Compared with what follows in runs when statements are left."""

    def check(self, statement):
        code = Code(statement)
        for (number, way), shown in reference.routes(statement).items():
            found = route(code, number, way)
            wanted = set() if found[1] is None else {found}
            self.assertEqual(shown, wanted, (statement, number, way))
            if found[1] is None:
                self.assertFalse(reference.can_end(statement, found[0][-1]))
        for place in code.places():
            self.assertEqual(needed(code, place), reference.needed(statement, place), (statement, place))
        for final in finals(code):
            self.check_final(code, final)

    def check_final(self, code, final):
        body, block = code.parts(final)
        found = behind(code, final)
        self.assertEqual([way for way, _ in found], ways(code, body))
        for way, follows in found:
            if way in ways(code, final):
                self.assertEqual(follows, route(code, final, way))
        shared = sharing(code, final)
        self.assertEqual(sorted([way for group in shared for way in group]), ways(code, body))
        self.assertEqual(shared, sorted([sorted(group) for group in shared]))
        for group in shared:
            same = [way for way, follows in found if follows == dict(found)[group[0]]]
            self.assertEqual(group, same)
        wanted = len(shared) if NORMAL in ways(code, block) else 0
        self.assertEqual(copies_here(code, final), wanted)

    def test_small_codes(self):
        for size in range(1, 5):
            for statement in all_of_size(size, 0):
                self.check(statement)

    def test_larger_codes(self):
        for statement in [WHILE, DROPPING] + random_statements(30, 300, range(5, 18), 6):
            self.check(statement)


class Behind(unittest.TestCase):
    def test_all_ways(self):
        code = Code(("try", ("while", "a", ("final", CHOICE, ("do", "e"))), ("do", "f")))
        wanted = [(("break", 1), ((), "end")), (NORMAL, ((), 1)), (RAISE, ((), 9)), (RETURN, ((), "return"))]
        self.assertEqual(behind(code, 2), wanted)
        self.assertEqual(copies_here(code, 2), 4)

    def test_a_block_that_is_never_left_normally(self):
        code = Code(("while", "a", ("final", CHOICE, ("return",))))
        ends = [((), "end"), ((), 0), ((), "raise"), ((), "return")]
        self.assertEqual(behind(code, 1), list(zip([("break", 1), NORMAL, RAISE, RETURN], ends)))
        self.assertEqual(sharing(code, 1), [[("break", 1)], [NORMAL], [RAISE], [RETURN]])
        self.assertEqual(copies_here(code, 1), 0)

    def test_numbers_are_ascending_as_numbers(self):
        code = Code(chain("while", 10, ("final", ("if", "a", ("break", 10), ("break", 2)), ("do", "b"))))
        self.assertEqual(behind(code, 10), [(("break", 2), ((), 7)), (("break", 10), ((), "end"))])

    def test_groups_are_in_the_order_of_their_first_ways(self):
        choice = ("if", "b", ("if", "c", ("break", 2), ("break", 1)), ("if", "d", ("continue", 2), ("continue", 1)))
        code = Code(("while", "v", ("while", "w", ("final", choice, ("do", "e")))))
        wanted = [[("break", 1), ("continue", 2)], [("break", 2)], [("continue", 1)]]
        self.assertEqual([sharing(code, 2), copies_here(code, 2)], [wanted, 3])

    def test_all_routes_end_in_a_block_around(self):
        inner = ("while", "a", ("final", CHOICE, ("do", "e")))
        code = Code(("final", inner, ("seq", (("raise",), ("do", "f")))))
        wanted = [(("break", 1), ((0,), None)), (NORMAL, ((), 1)), (RAISE, ((0,), None)), (RETURN, ((0,), None))]
        self.assertEqual(behind(code, 2), wanted)
        self.assertEqual([sharing(code, 2), copies_here(code, 2)], [[[("break", 1), RAISE, RETURN], [NORMAL]], 2])

    def test_what_is_no_final(self):
        code = Code(MIXED)
        others = tuple([number for number in range(len(code)) if code.kind(number) != "final"])
        for value in NO_NUMBERS + others + (len(code),):
            for asked in (behind, sharing, copies_here):
                with self.subTest(value=value, asked=asked):
                    with self.assertRaises(InvalidNumber) as caught:
                        asked(code, value)
                    self.assertIs(caught.exception.number, value)


class Needed(unittest.TestCase):
    def test_no_layers(self):
        code = Code(("final", ("call", "a"), ("do", "b")))
        self.assertEqual([needed(code, 1), needed(code, 2), needed(code, 0)], [[], [0], [0]])

    def test_inner_layers_that_are_only_left_normally(self):
        code = Code(chain("block", 3, ("do", "a")))
        self.assertEqual([needed(code, place) for place in (6, 4, 5, 2, 3, 0)], [[4], [4], [2], [2], [0], [0]])

    def test_inner_layers_that_can_be_left_otherwise(self):
        # The raise comes to the handler in the block of 0; the block of 3 is never left normally.
        code = Code(("final", ("return",), ("try", ("final", ("do", "a"), ("raise",)), ("do", "b"))))
        self.assertEqual(code.layers(5), [0, 3])
        self.assertEqual([needed(code, place) for place in (5, 3, 4, 6)], [[0], [3], [0], [0]])
        code = Code(("final", ("return",), ("try", ("final", ("do", "a"), ("call", "c")), ("do", "b"))))
        self.assertEqual([needed(code, place) for place in (5, 3, 4)], [[0, 3], [3], [0]])

    def test_layers_between_are_not_needed(self):
        # The break leaves the blocks of 4 and 3 otherwise than normally.
        inner = ("final", ("do", "b"), ("final", ("do", "c"), ("if", "d", ("do", "e"), ("break", 1))))
        code = Code(("final", ("call", "a"), ("while", "w", inner)))
        self.assertEqual(code.layers(8), [0, 3, 5])
        self.assertEqual([needed(code, place) for place in (7, 8, 9)], [[0, 5], [5], [0]])

    def test_layers_that_no_way_comes_to(self):
        inner = ("final", ("call", "a"), ("seq", (("if", "b", ("do", "c"), ("raise",)), ("do", "d"))))
        code = Code(("final", ("call", "e"), ("seq", (inner, ("return",)))))
        self.assertEqual([needed(code, place) for place in (6, 7, 8, 9, 10, 3)], [[3], [3], [], [3], [], [3]])
        self.assertEqual(needed(code, 4), [])

    def test_a_while_that_is_done_again(self):
        block = ("while", "b", ("seq", (("do", "c"), ("if", "d", ("continue", 1), ("return",)))))
        code = Code(("final", ("call", "a"), block))
        self.assertEqual([needed(code, place) for place in (2, 4, 5, 6, 7)], [[0], [0], [0], [0], []])

    def test_the_end_of_a_block_needs_its_own_final(self):
        code = Code(("final", ("call", "a"), ("try", ("final", ("raise",), ("do", "b")), ("return",))))
        self.assertEqual([needed(code, 3), needed(code, 0)], [[3], [0]])
        code = Code(("final", ("call", "a"), ("return",)))
        self.assertEqual([needed(code, 0), needed(code, 2)], [[0], []])

    def test_places_that_no_run_comes_to(self):
        block = ("while", "b", ("seq", (("return",), ("if", "c", ("break", 1), ("continue", 1)), ("call", "d"))))
        code = Code(("final", ("call", "a"), block))
        self.assertEqual([needed(code, place) for place in (4, 5, 6, 7, 8)], [[], [0], [0], [0], [0]])
        block = ("try", ("do", "b"), ("seq", (("raise",), ("do", "c"))))
        code = Code(("final", ("call", "a"), block))
        self.assertEqual([needed(code, place) for place in (3, 5, 6)], [[0], [], [0]])

    def test_what_is_no_place(self):
        code = Code(MIXED)
        others = tuple([number for number in range(len(code)) if code.kind(number) in ("seq", "try")])
        for value in NO_NUMBERS + others + (len(code),):
            with self.subTest(value=value):
                with self.assertRaises(InvalidNumber) as caught:
                    needed(code, value)
                self.assertIs(caught.exception.number, value)


class Limits(unittest.TestCase):
    def test_a_hundred_levels(self):
        code = Code(chain("body", 99, ("call", "a")))
        blocks = tuple(range(98, -1, -1))
        self.assertEqual(route(code, 99, RAISE), (blocks, "raise"))
        self.assertEqual(route(code, 99, NORMAL), (blocks, "end"))
        for kind in ("while", "if", "other", "seq", "try"):
            code = Code(("final", ("call", "a"), chain(kind, 98, ("call", "b"))))
            for place in code.places()[2:]:
                self.assertEqual(needed(code, place), [0])

    def test_all_25_layers(self):
        # A break of each number comes to the end of another block.
        inner = ("do", "z")
        for number in range(25, 0, -1):
            inner = ("if", "y", ("break", number), inner)
        for _ in range(25):
            inner = ("final", ("call", "x"), ("while", "w", inner))
        code = Code(inner)
        self.assertEqual(needed(code, 75), list(range(0, 75, 3)))
        self.assertEqual([needed(code, 76), needed(code, 78)], [[72], [69]])


class NewLists(unittest.TestCase):
    def test_changing_a_result_changes_no_later_one(self):
        code = Code(MIXED)
        asked = []
        for final in finals(code):
            asked.append(lambda final=final: behind(code, final))
            asked.append(lambda final=final: sharing(code, final))
            asked.append(lambda final=final: sharing(code, final)[0])
        for place in code.places():
            asked.append(lambda place=place: needed(code, place))
        before = [list(ask()) for ask in asked]
        for ask in asked:
            ask().insert(0, 7)
        self.assertEqual([ask() for ask in asked], before)

    def test_several_needed_layers_are_a_new_list(self):
        inner = ("if", "y", ("break", 3), ("if", "y", ("break", 2), ("do", "z")))
        for _ in range(3):
            inner = ("final", ("call", "x"), ("while", "w", inner))
        code = Code(inner)
        first = needed(code, 9)
        self.assertEqual([first, code.layers(9)], [[0, 3, 6], [0, 3, 6]])
        first.reverse()
        self.assertEqual([needed(code, 9), code.layers(9), first], [[0, 3, 6], [0, 3, 6], [6, 3, 0]])

    def test_a_group_is_not_another_one(self):
        found = sharing(Code(WHILE), 1)
        found[0].append(NORMAL)
        self.assertEqual(found, [[("break", 1), NORMAL], [NORMAL]])
        self.assertEqual(sharing(Code(WHILE), 1), [[("break", 1)], [NORMAL]])


if __name__ == "__main__":
    unittest.main()
