"""Points 2, 10, 11 and 12: direct runs and their moments."""

import inspect
import unittest

import reference
from finallycopies import runs
from finallycopies.code import Code
from finallycopies.errors import InvalidAnswers
from finallycopies.runs import Run, moment, run
from samples import MIXED, WHILE, Anything, all_of_size, chain, flat, random_statements

CALLS = ("final", ("call", "x"), ("call", "y"))


def shown(statement, answers):
    """The fields of a run."""
    found = run(Code(statement), answers)
    return (found.visited, found.used, found.end)


class Examples(unittest.TestCase):
    def test_e04(self):
        r = run(Code(WHILE), [1, 1])
        self.assertEqual([r.visited, r.used, r.end], [[0, 2, 4, 5, 1], 2, "end"])

    def test_e05(self):
        r = run(Code(WHILE), [1, 0])
        self.assertEqual([r.visited, r.used, r.end], [[0, 2, 3, 5, 1], 2, "wait"])

    def test_e06(self):
        found = [moment(Code(WHILE), [1, 0]), moment(Code(CALLS), [1])]
        self.assertEqual(found, [(0, []), (2, [(0, ("raise",))])])


class Interface(unittest.TestCase):
    def test_functions_and_the_class_stand_in_the_file(self):
        for made in (Run, run, moment):
            self.assertEqual(made.__module__, "finallycopies.runs")
        self.assertIn("__eq__", vars(Run))
        self.assertIs(runs.Run, Run)

    def test_names_of_arguments(self):
        self.assertEqual(list(inspect.signature(Run).parameters), ["visited", "used", "end"])
        self.assertEqual(list(inspect.signature(run).parameters), ["code", "answers"])
        self.assertEqual(list(inspect.signature(moment).parameters), ["code", "answers"])

    def test_arguments_by_name(self):
        c = Code(WHILE)
        self.assertEqual(run(answers=[1, 1], code=c), run(c, [1, 1]))
        self.assertEqual(moment(answers=[1, 0], code=c), moment(c, [1, 0]))
        self.assertEqual(Run(end="end", used=2, visited=[0]), Run([0], 2, "end"))

    def test_a_run_is_a_run(self):
        found = run(Code(WHILE), [1])
        self.assertIsInstance(found, Run)
        self.assertIsInstance(found.visited, list)
        self.assertEqual(vars(found), {"visited": [0], "used": 1, "end": "wait"})


class Kinds(unittest.TestCase):
    def test_do_and_jumps(self):
        self.assertEqual(shown(("do", "a"), []), ([0], 0, "end"))
        self.assertEqual(shown(("return",), []), ([0], 0, "return"))
        self.assertEqual(shown(("raise",), []), ([0], 0, "raise"))

    def test_call(self):
        self.assertEqual(shown(("call", "a"), []), ([], 0, "wait"))
        self.assertEqual(shown(("call", "a"), [0]), ([0], 1, "end"))
        self.assertEqual(shown(("call", "a"), [1]), ([0], 1, "raise"))

    def test_if(self):
        statement = ("if", "a", ("return",), ("do", "b"))
        self.assertEqual(shown(statement, []), ([], 0, "wait"))
        self.assertEqual(shown(statement, [0]), ([0, 1], 1, "return"))
        self.assertEqual(shown(statement, [1]), ([0, 2], 1, "end"))

    def test_while(self):
        statement = ("while", "a", ("do", "b"))
        self.assertEqual(shown(statement, []), ([], 0, "wait"))
        self.assertEqual(shown(statement, [0]), ([0], 1, "end"))
        self.assertEqual(shown(statement, [1]), ([0, 1], 1, "wait"))
        self.assertEqual(shown(statement, [1, 1, 0]), ([0, 1, 0, 1, 0], 3, "end"))

    def test_break_and_continue_1(self):
        self.assertEqual(shown(("while", "a", ("break", 1)), [1]), ([0, 1], 1, "end"))
        self.assertEqual(shown(("while", "a", ("continue", 1)), [1, 0]), ([0, 1, 0], 2, "end"))
        self.assertEqual(shown(("while", "a", ("return",)), [1]), ([0, 1], 1, "return"))
        self.assertEqual(shown(("while", "a", ("raise",)), [1]), ([0, 1], 1, "raise"))

    def test_seq(self):
        parts = (("do", "a"), ("seq", (("do", "b"), ("call", "c"))), ("do", "d"))
        self.assertEqual(shown(("seq", parts), [0]), ([1, 3, 4, 5], 1, "end"))
        self.assertEqual(shown(("seq", parts), [1]), ([1, 3, 4], 1, "raise"))

    def test_try(self):
        self.assertEqual(shown(("try", ("call", "a"), ("return",)), [0]), ([1], 1, "end"))
        self.assertEqual(shown(("try", ("call", "a"), ("return",)), [1]), ([1, 2], 1, "return"))
        self.assertEqual(shown(("try", ("return",), ("do", "a")), []), ([1], 0, "return"))
        self.assertEqual(shown(("try", ("raise",), ("raise",)), []), ([1, 2], 0, "raise"))

    def test_final(self):
        self.assertEqual(shown(("final", ("do", "a"), ("do", "b")), []), ([1, 2, 0], 0, "end"))
        self.assertEqual(shown(("final", ("return",), ("do", "b")), []), ([1, 2, 0], 0, "return"))
        self.assertEqual(shown(("final", ("raise",), ("return",)), []), ([1, 2], 0, "return"))
        self.assertEqual(shown(CALLS, [1, 0]), ([1, 2, 0], 2, "raise"))
        self.assertEqual(shown(CALLS, [0, 1]), ([1, 2], 2, "raise"))

    def test_breaks_through_several_whiles(self):
        for number, wanted in ((1, [0, 1, 2, 3, 1]), (2, [0, 1, 2, 3, 0]), (3, [0, 1, 2, 3])):
            statement = ("while", "a", ("while", "b", ("while", "c", ("break", number))))
            end = "end" if number == 3 else "wait"
            visited = wanted if number == 3 else wanted[:-1]
            self.assertEqual(shown(statement, [1, 1, 1]), (visited, 3, end))
            self.assertEqual(shown(statement, [1, 1, 1, 0])[0], wanted)

    def test_continues_through_several_whiles(self):
        for number in (1, 2, 3):
            statement = ("while", "a", ("while", "b", ("while", "c", ("continue", number))))
            self.assertEqual(shown(statement, [1, 1, 1, 0])[0], [0, 1, 2, 3, 3 - number])

    def test_raise_through_try_and_final(self):
        statement = ("try", ("while", "a", ("final", ("raise",), ("do", "b"))), ("do", "c"))
        self.assertEqual(shown(statement, [1]), ([1, 3, 4, 2, 5], 1, "end"))
        statement = ("final", ("try", ("final", ("do", "a"), ("raise",)), ("return",)), ("do", "b"))
        self.assertEqual(shown(statement, []), ([3, 4, 5, 6, 0], 0, "return"))

    def test_pending_ways_are_dropped(self):
        statement = ("while", "a", ("final", ("return",), ("break", 1)))
        self.assertEqual(shown(statement, [1]), ([0, 2, 3], 1, "end"))
        statement = ("while", "a", ("final", ("return",), ("if", "b", ("continue", 1), ("do", "c"))))
        self.assertEqual(shown(statement, [1, 0, 1, 1]), ([0, 2, 3, 4, 0, 2, 3, 5, 1], 4, "return"))
        statement = ("try", ("final", ("return",), ("raise",)), ("do", "a"))
        self.assertEqual(shown(statement, []), ([2, 3, 4], 0, "end"))

    def test_finals_in_bodies_and_blocks_of_finals(self):
        inner = ("final", ("return",), ("do", "b"))
        self.assertEqual(shown(("final", inner, ("do", "c")), []), ([2, 3, 1, 4, 0], 0, "return"))
        self.assertEqual(shown(("final", ("raise",), inner), []), ([1, 3, 4, 2], 0, "return"))
        inner = ("final", ("do", "a"), ("do", "b"))
        self.assertEqual(shown(("final", ("raise",), inner), []), ([1, 3, 4, 2, 0], 0, "raise"))

    def test_a_way_through_a_while_is_pending_as_it_leaves_the_body(self):
        statement = ("while", "a", ("final", ("while", "b", ("break", 2)), ("do", "c")))
        self.assertEqual(shown(statement, [1, 1]), ([0, 2, 3, 4, 1], 2, "end"))
        statement = ("while", "a", ("final", ("while", "b", ("break", 1)), ("do", "c")))
        self.assertEqual(shown(statement, [1, 1]), ([0, 2, 3, 4, 1], 2, "wait"))


class Search(unittest.TestCase):
    def check(self, statement, most):
        code = Code(statement)
        for answers in reference.lists_up_to(most):
            visited, used, end, now = reference.direct(statement, answers)
            self.assertEqual(run(code, answers), Run(visited, used, end), (statement, answers))
            self.assertEqual(moment(code, answers), now, (statement, answers))

    def test_small_codes(self):
        for size in range(1, 5):
            for statement in all_of_size(size, 0):
                self.check(statement, 3)

    def test_larger_codes(self):
        self.check(MIXED, 7)
        for statement in random_statements(10, 300, range(6, 20)):
            self.check(statement, 5)


class Answers(unittest.TestCase):
    def test_too_few_exactly_enough_and_more(self):
        self.assertEqual(shown(WHILE, []), ([], 0, "wait"))
        self.assertEqual(shown(WHILE, [1]), ([0], 1, "wait"))
        self.assertEqual(shown(WHILE, [1, 1]), ([0, 2, 4, 5, 1], 2, "end"))
        self.assertEqual(shown(WHILE, [1, 1, 0, 1]), ([0, 2, 4, 5, 1], 2, "end"))
        self.assertEqual(shown(("do", "a"), [0, 1]), ([0], 0, "end"))

    def test_a_thousand_answers(self):
        self.assertEqual(shown(WHILE, [1, 0] * 500), ([0, 2, 3, 5, 1] * 500, 1000, "wait"))
        self.assertEqual(shown(WHILE, [0] * 1000), ([0], 1, "end"))
        found = run(Code(("while", "a", flat(397))), [1] * 1000)
        self.assertEqual([len(found.visited), found.used, found.end], [397 * 1000, 1000, "wait"])

    def test_invalid_lists(self):
        for value in (None, True, 0, 1, "", "01", (), (0, 1), {}, {0}, b"\x00", range(2), object(), Anything()):
            self.refuse(value, -1)
        for length in (1001, 1002, 5000):
            self.refuse([0] * length, -1)
            self.refuse([None] * length, -1)

    def test_invalid_items(self):
        values = (2, -1, True, False, None, "0", "", b"", (), (0,), [], [0], {}, {1}, 10**39, -(10**39))
        for value in values + (object(), Anything()):
            self.refuse([value], 0)
            self.refuse([1, 0, value, value], 2)
            self.refuse([0] * 999 + [value], 999)

    def test_the_first_invalid_item(self):
        self.refuse([0, 1, True, 2], 2)
        self.refuse([2, []], 0)

    def test_items_behind_the_end_of_the_run(self):
        for statement in (WHILE, ("do", "a"), ("return",)):
            with self.assertRaises(InvalidAnswers) as caught:
                run(Code(statement), [0, 0, 0, False])
            self.assertEqual(caught.exception.at, 3)

    def refuse(self, value, at):
        for asked in (run, moment):
            with self.assertRaises(InvalidAnswers) as caught:
                asked(Code(WHILE), value)
            self.assertEqual(caught.exception.at, at)

    def test_they_are_not_changed(self):
        answers = [1, 0, 1, 1, 0]
        run(Code(WHILE), answers)
        moment(Code(WHILE), answers)
        self.assertEqual(answers, [1, 0, 1, 1, 0])


class Moments(unittest.TestCase):
    def test_no_layers(self):
        self.assertEqual(moment(Code(WHILE), []), (0, []))
        self.assertEqual(moment(Code(WHILE), [1]), (2, []))
        self.assertEqual(moment(Code(CALLS), []), (1, []))

    def test_one_layer(self):
        self.assertEqual(moment(Code(CALLS), [0]), (2, [(0, ("normal",))]))
        statement = ("while", "a", ("while", "b", ("final", ("continue", 2), ("call", "c"))))
        self.assertEqual(moment(Code(statement), [1, 1]), (4, [(2, ("continue", 2))]))

    def test_the_way_that_a_while_in_the_body_is_left_in(self):
        statement = ("while", "a", ("final", ("while", "b", ("break", 2)), ("call", "c")))
        self.assertEqual(moment(Code(statement), [1, 1]), (4, [(1, ("break", 1))]))

    def test_several_layers(self):
        inner = ("final", ("call", "b"), ("final", ("call", "c"), ("call", "d")))
        code = Code(("final", ("call", "a"), inner))
        self.assertEqual(moment(code, [1]), (3, [(0, ("raise",))]))
        self.assertEqual(moment(code, [1, 0]), (5, [(0, ("raise",)), (2, ("normal",))]))
        wanted = (6, [(0, ("normal",)), (2, ("raise",)), (4, ("raise",))])
        self.assertEqual(moment(code, [0, 1, 1]), wanted)

    def test_a_body_of_a_final_in_a_block(self):
        code = Code(("final", ("return",), ("final", ("call", "a"), ("do", "b"))))
        self.assertEqual(moment(code, []), (3, [(0, ("return",))]))

    def test_a_later_round_has_its_own_pending_way(self):
        statement = ("while", "a", ("final", ("if", "b", ("do", "c"), ("return",)), ("call", "d")))
        code = Code(("try", statement, ("do", "e")))
        self.assertEqual(moment(code, [1, 1]), (6, [(2, ("return",))]))
        block = ("if", "d", ("continue", 1), ("do", "e"))
        code = Code(("while", "a", ("final", ("if", "b", ("do", "c"), ("return",)), block)))
        self.assertEqual(moment(code, [1, 1]), (5, [(1, ("return",))]))
        self.assertEqual(moment(code, [1, 1, 0]), (0, []))
        self.assertEqual(moment(code, [1, 1, 0, 1, 0]), (5, [(1, ("normal",))]))

    def test_the_end(self):
        self.assertEqual(moment(Code(WHILE), [0]), ("end", []))
        self.assertEqual(moment(Code(WHILE), [1, 1, 1, 1]), ("end", []))
        self.assertEqual(moment(Code(CALLS), [1, 0]), ("raise", []))
        self.assertEqual(moment(Code(("final", ("return",), ("do", "a"))), []), ("return", []))

    def test_all_25_layers(self):
        code = Code(chain("block", 24, CALLS))
        wanted = [(layer, ("normal",)) for layer in range(0, 48, 2)] + [(48, ("raise",))]
        self.assertEqual(moment(code, [1]), (50, wanted))


class Runs(unittest.TestCase):
    def test_equal_fields(self):
        self.assertTrue(Run([0, 1], 1, "end") == Run([0, 1], 1, "end"))
        self.assertFalse(Run([0, 1], 1, "end") != Run([0, 1], 1, "end"))
        self.assertTrue(run(Code(WHILE), [1, 1]) == Run([0, 2, 4, 5, 1], 2, "end"))

    def test_one_other_field(self):
        for other in (Run([0], 1, "end"), Run([1, 0], 1, "end"), Run([0, 1], 2, "end"), Run([0, 1], 1, "wait")):
            self.assertFalse(Run([0, 1], 1, "end") == other)
            self.assertTrue(Run([0, 1], 1, "end") != other)

    def test_equal_to_nothing_else(self):
        found = Run([], 0, "wait")
        for other in (None, [], ([], 0, "wait"), "wait", 0, True, {}, object(), Run, Code(WHILE), Anything()):
            self.assertIs(found == other, False)
            self.assertIs(found != other, True)

    def test_it_keeps_a_copy_of_the_list(self):
        visited = [0, 2]
        found = Run(visited, 1, "wait")
        visited.append(3)
        self.assertEqual(found.visited, [0, 2])
        found.visited.append(4)
        self.assertEqual(visited, [0, 2, 3])

    def test_results_belong_to_the_caller(self):
        code = Code(CALLS)
        run(code, [1]).visited.append(9)
        self.assertEqual(run(code, [1]).visited, [1])
        moment(code, [1])[1].append(9)
        self.assertEqual(moment(code, [1]), (2, [(0, ("raise",))]))


class Depth(unittest.TestCase):
    def test_a_hundred_levels(self):
        for kind in ("while", "if", "other", "seq", "try", "body"):
            statement = chain(kind, 99, ("call", "a"))
            code = Code(statement)
            answers = {"while": [1] * 99, "if": [0] * 99, "other": [1] * 99}.get(kind, [])
            found = run(code, answers)
            self.assertEqual([found.used, found.end], [len(answers), "wait"])
            self.assertEqual(moment(code, answers), (198 if kind == "other" else 99, []))
            self.assertNotEqual(run(code, answers + [1]).end, "wait")

    def test_break_through_ninety_whiles(self):
        self.assertEqual(shown(chain("while", 90, ("break", 90)), [1] * 90), (list(range(91)), 90, "end"))
        found = shown(chain("while", 90, ("continue", 90)), [1] * 90 + [0])
        self.assertEqual(found, (list(range(91)) + [0], 91, "end"))


if __name__ == "__main__":
    unittest.main()
