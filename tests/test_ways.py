"""Points 2, 13, 14 and 15: the ways of statements, and the places that runs come to."""

import inspect
import unittest

import reference
from finallycopies import ways as module
from finallycopies.code import Code
from finallycopies.errors import InvalidNumber
from finallycopies.runs import run
from finallycopies.ways import dead, place_answers, reached, way_answers, ways
from samples import DROPPING, MIXED, NO_NUMBERS, NO_WAYS, WHILE, all_of_size, chain, flat, random_statements

END = ("seq", (("return",), ("do", "a")))


def whiles(count, inner):
    return chain("while", count, inner)


class Examples(unittest.TestCase):
    def test_e07(self):
        c = Code(WHILE)
        found = [ways(c, 1), ways(c, 0), way_answers(c, 1, ("break", 1)), way_answers(c, 0, ("normal",))]
        self.assertEqual(found, [[("break", 1), ("normal",)], [("normal",)], [1], [0]])
        self.assertEqual(place_answers(c, 1), [1, 0])

    def test_e08(self):
        z = Code(END)
        self.assertEqual([reached(z), dead(z)], [[1], [2]])


class Interface(unittest.TestCase):
    def test_functions_stand_in_the_file(self):
        for name in ("ways", "way_answers", "place_answers", "reached", "dead"):
            self.assertEqual(getattr(module, name).__module__, "finallycopies.ways")

    def test_names_of_arguments(self):
        wanted = {ways: ["code", "number"], way_answers: ["code", "number", "way"], reached: ["code"]}
        wanted.update({place_answers: ["code", "place"], dead: ["code"]})
        for made, names in wanted.items():
            self.assertEqual(list(inspect.signature(made).parameters), names)

    def test_arguments_by_name(self):
        c = Code(WHILE)
        self.assertEqual(ways(number=1, code=c), ways(c, 1))
        self.assertEqual(way_answers(way=("break", 1), number=1, code=c), [1])
        self.assertEqual(place_answers(place=1, code=c), [1, 0])
        self.assertEqual([reached(code=c), dead(code=c)], [[0, 1, 2, 3, 4, 5], []])


class Ways(unittest.TestCase):
    def check(self, statement, wanted):
        self.assertEqual(ways(Code(statement), 0), wanted)

    def test_steps_and_jumps(self):
        self.check(("do", "a"), [("normal",)])
        self.check(("call", "a"), [("normal",), ("raise",)])
        self.check(("return",), [("return",)])
        self.check(("raise",), [("raise",)])
        code = Code(whiles(3, ("if", "a", ("break", 3), ("continue", 2))))
        self.assertEqual([ways(code, 4), ways(code, 5)], [[("break", 3)], [("continue", 2)]])
        self.assertEqual(ways(code, 3), [("break", 3), ("continue", 2)])

    def test_if(self):
        self.check(("if", "a", ("do", "b"), ("do", "c")), [("normal",)])
        self.check(("if", "a", ("raise",), ("return",)), [("raise",), ("return",)])

    def test_while(self):
        self.check(("while", "a", ("do", "b")), [("normal",)])
        self.check(("while", "a", ("return",)), [("normal",), ("return",)])
        self.check(("while", "a", ("call", "b")), [("normal",), ("raise",)])
        code = Code(whiles(4, ("if", "a", ("break", 4), ("continue", 4))))
        found = [ways(code, number) for number in range(5)]
        self.assertEqual(found[0], [("normal",)])
        self.assertEqual(found[1], [("break", 1), ("continue", 1), ("normal",)])
        self.assertEqual(found[3], [("break", 3), ("continue", 3), ("normal",)])
        self.assertEqual(found[4], [("break", 4), ("continue", 4)])

    def test_seq(self):
        self.check(END, [("return",)])
        self.check(("seq", (("call", "a"), ("return",))), [("raise",), ("return",)])
        choice = ("if", "b", ("return",), ("do", "c"))
        self.check(("seq", (("call", "a"), choice)), [("normal",), ("raise",), ("return",)])

    def test_try(self):
        self.check(("try", ("call", "a"), ("return",)), [("normal",), ("return",)])
        self.check(("try", ("do", "a"), ("return",)), [("normal",)])
        self.check(("try", ("raise",), ("call", "a")), [("normal",), ("raise",)])
        self.check(("try", ("return",), ("raise",)), [("return",)])

    def test_final(self):
        self.check(("final", ("call", "a"), ("do", "b")), [("normal",), ("raise",)])
        self.check(("final", ("call", "a"), ("return",)), [("return",)])
        self.check(("final", ("return",), ("call", "a")), [("raise",), ("return",)])
        self.check(("final", ("do", "a"), ("if", "b", ("return",), ("raise",))), [("raise",), ("return",)])

    def test_numbers_are_ascending_as_numbers(self):
        choice = ("if", "a", ("break", 10), ("if", "b", ("break", 2), ("if", "c", ("continue", 11), ("continue", 9))))
        code = Code(whiles(11, choice))
        self.assertEqual(ways(code, 11), [("break", 2), ("break", 10), ("continue", 9), ("continue", 11)])
        wanted = [("break", 1), ("break", 9), ("continue", 8), ("continue", 10), ("normal",)]
        self.assertEqual(ways(code, 10), wanted)

    def test_a_statement_is_done_alone(self):
        code = Code(("while", "a", ("try", ("final", ("raise",), ("do", "b")), ("break", 1))))
        self.assertEqual([ways(code, number) for number in (2, 1, 0)], [[("raise",)], [("break", 1)], [("normal",)]])

    def test_statements_that_no_run_begins(self):
        code = Code(("seq", (("return",), ("call", "a"))))
        self.assertEqual(ways(code, 2), [("normal",), ("raise",)])


class Search(unittest.TestCase):
    """Compared with all lists of answers; first shortest lists ask each statement once at most."""

    def check(self, statement):
        code = Code(statement)
        for node in reference.Node(statement).all():
            found = reference.leavings(node)
            self.assertEqual(ways(code, node.number), sorted(found), statement)
            for way, answers in found.items():
                self.assertEqual(way_answers(code, node.number, way), answers, (statement, node.number, way))
            for way in {("normal",), ("raise",), ("return",), ("break", 1), ("continue", 1)} - set(found):
                self.assertIsNone(way_answers(code, node.number, way), (statement, node.number, way))
        found = reference.comings(statement)
        for place in code.places():
            self.assertEqual(place_answers(code, place), found.get(place), (statement, place))
        self.assertEqual(reached(code), sorted(found), statement)
        wanted = [number for number in range(len(code)) if code.entry(number) not in found]
        self.assertEqual(dead(code), wanted, statement)

    def test_small_codes(self):
        for size in range(1, 5):
            for statement in all_of_size(size, 0):
                self.check(statement)

    def test_larger_codes(self):
        for statement in [WHILE, MIXED, DROPPING] + random_statements(20, 300, range(5, 18), 6):
            self.check(statement)


class WayAnswers(unittest.TestCase):
    def test_the_first_of_equally_short_ones(self):
        code = Code(("if", "a", ("return",), ("if", "b", ("return",), ("raise",))))
        self.assertEqual([way_answers(code, 0, ("return",)), way_answers(code, 0, ("raise",))], [[0], [1, 1]])
        code = Code(("if", "a", ("call", "b"), ("call", "c")))
        self.assertEqual(way_answers(code, 0, ("raise",)), [0, 1])

    def test_a_shorter_one_comes_before_a_lesser_one(self):
        code = Code(("if", "a", ("call", "b"), ("raise",)))
        self.assertEqual([way_answers(code, 0, ("raise",)), way_answers(code, 0, ("normal",))], [[1], [0, 0]])
        code = Code(("final", ("if", "a", ("call", "b"), ("return",)), ("call", "c")))
        self.assertEqual(way_answers(code, 0, ("raise",)), [1, 1])

    def test_no_answers(self):
        self.assertEqual(way_answers(Code(("do", "a")), 0, ("normal",)), [])
        self.assertEqual(way_answers(Code(END), 0, ("return",)), [])

    def test_no_way_of_the_statement(self):
        code = Code(("while", "a", ("break", 1)))
        for way in (("break", 1), ("break", 2), ("continue", 1), ("raise",), ("return",), ("break", 10**39)):
            self.assertIsNone(way_answers(code, 0, way))
        self.assertEqual(way_answers(code, 1, ("break", 1)), [])
        self.assertIsNone(way_answers(code, 1, ("normal",)))

    def test_what_is_no_way_at_all(self):
        code = Code(("while", "a", ("while", "b", ("if", "c", ("break", 1), ("continue", 1)))))
        for value in NO_WAYS:
            for number in range(len(code)):
                with self.subTest(value=value, number=number):
                    self.assertIsNone(way_answers(code, number, value))

    def test_the_number_is_looked_at_first(self):
        for value in NO_NUMBERS + (6,):
            for way in (("normal",), [], None, ("break", True)):
                with self.assertRaises(InvalidNumber) as caught:
                    way_answers(Code(WHILE), value, way)
                self.assertIs(caught.exception.number, value)


class Places(unittest.TestCase):
    def test_places_that_no_run_comes_to(self):
        code = Code(("seq", (("final", ("do", "a"), ("return",)), ("call", "b"))))
        self.assertEqual([place_answers(code, place) for place in code.places()], [None, [], [], None])
        self.assertEqual([reached(code), dead(code)], [[2, 3], [4]])

    def test_the_handler_of_what_never_raises(self):
        code = Code(("try", ("do", "a"), ("seq", (("do", "b"), ("do", "c")))))
        self.assertEqual([reached(code), dead(code)], [[1], [2, 3, 4]])
        code = Code(("try", ("call", "a"), ("seq", (("raise",), ("do", "c")))))
        self.assertEqual([reached(code), dead(code)], [[1, 3], [4]])
        self.assertEqual(place_answers(code, 3), [1])

    def test_a_final_is_not_dead_if_its_end_is_not_reached(self):
        code = Code(("final", ("do", "a"), ("raise",)))
        self.assertEqual([reached(code), dead(code)], [[1, 2], []])

    def test_the_shortest_way_to_a_block(self):
        code = Code(("final", ("if", "a", ("call", "b"), ("do", "c")), ("call", "d")))
        self.assertEqual([place_answers(code, 4), place_answers(code, 0)], [[1], [1, 0]])

    def test_the_run_with_these_answers_comes_to_the_place(self):
        for statement in [MIXED] + random_statements(21, 60, range(20, 40), 40):
            code = Code(statement)
            for place in reached(code):
                answers = place_answers(code, place)
                found = run(code, answers)
                self.assertEqual(found.used, len(answers))
                if place not in found.visited:
                    longer = run(code, answers + [0])
                    self.assertEqual(longer.visited[len(found.visited)], place)

    def test_what_is_no_number(self):
        code = Code(END)
        for value in NO_NUMBERS + (3, 4):
            for asked in (ways, place_answers):
                with self.subTest(value=value, asked=asked):
                    with self.assertRaises(InvalidNumber) as caught:
                        asked(code, value)
                    self.assertIs(caught.exception.number, value)

    def test_what_is_no_place(self):
        code = Code(("seq", (("try", ("do", "a"), ("do", "b")), ("final", ("do", "c"), ("seq", (("do", "d"),))))))
        for number in (0, 1, 6):
            self.assertIsInstance(ways(code, number), list)
            with self.assertRaises(InvalidNumber) as caught:
                place_answers(code, number)
            self.assertEqual(caught.exception.number, number)


class Limits(unittest.TestCase):
    def test_a_hundred_levels(self):
        for kind in ("while", "if", "other", "seq", "try", "body"):
            code = Code(chain(kind, 99, ("call", "a")))
            last = {"other": 198}.get(kind, 99)
            answers = {"while": [1] * 99, "if": [0] * 99, "other": [1] * 99}.get(kind, [])
            self.assertEqual(place_answers(code, last), answers)
            wanted = [("normal",)] if kind == "try" else [("normal",), ("raise",)]
            self.assertEqual(ways(code, 0), wanted)

    def test_ways_through_ninety_whiles(self):
        code = Code(whiles(90, ("if", "a", ("break", 90), ("continue", 90))))
        for number in range(1, 91):
            found = [("break", number), ("continue", number)]
            self.assertEqual(ways(code, number), found if number == 90 else found + [("normal",)])
            self.assertEqual(way_answers(code, number, ("continue", number)), [1] * (90 - number) + [1])
        self.assertEqual(way_answers(code, 0, ("normal",)), [0])

    def test_four_hundred_statements(self):
        code = Code(("seq", (("call", "a"),) * 399))
        self.assertEqual(way_answers(code, 0, ("normal",)), [0] * 399)
        self.assertEqual(way_answers(code, 0, ("raise",)), [1])
        self.assertEqual(place_answers(code, 399), [0] * 398)
        self.assertEqual(reached(Code(flat(400))), list(range(1, 400)))


class NewLists(unittest.TestCase):
    def test_changing_a_result_changes_no_later_one(self):
        code = Code(MIXED)
        asked = [lambda: reached(code), lambda: dead(code)]
        for number in range(len(code)):
            asked.append(lambda number=number: ways(code, number))
            for way in ways(code, number):
                asked.append(lambda number=number, way=way: way_answers(code, number, way))
        for place in reached(code):
            asked.append(lambda place=place: place_answers(code, place))
        before = [list(ask()) for ask in asked]
        for ask in asked:
            ask().insert(0, 7)
        self.assertEqual([ask() for ask in asked], before)
        self.assertEqual(code, Code(MIXED))

    def test_equal_codes_give_equal_results(self):
        for number in range(len(Code(MIXED))):
            self.assertEqual(ways(Code(MIXED), number), ways(Code(MIXED), number))


if __name__ == "__main__":
    unittest.main()
