"""Points 2 and 33: sessions."""

import inspect
import random
import unittest

from finallycopies.code import Code
from finallycopies.errors import InvalidAnswers, InvalidBound, LimitExceeded, NotWaiting
from finallycopies.lowered import Lowered
from finallycopies.runs import moment, run
from finallycopies.sessions import Session
from samples import DROPPING, MIXED, WHILE, Anything, flat, random_statements
from towers import THREE, breaking, tower

METHODS = {"answer": ["value"], "undo": ["count"], "code": [], "answers": [], "places": [], "now": [], "address": []}
NO_ANSWERS = (2, -1, True, False, None, "0", "", b"", (), (0,), [], [0], {}, {1}, 10**39, -(10**39))
NO_ANSWERS += (object(), Anything())
NO_COUNTS = (-1, -(10**39), 10**39, True, False, None, "0", "", (), [], [0], {}, {0}, object(), Anything())
ENDLESS = ("while", "a", ("final", ("call", "b"), ("continue", 1)))
SAMPLES = [WHILE, MIXED, DROPPING, ENDLESS, tower(2, THREE), breaking(3), tower(25, THREE)]
SAMPLES += random_statements(49, 60, range(4, 20), 9)


class Example(unittest.TestCase):
    def test_e25(self):
        s = Session(Code(WHILE))
        found = [s.places(), s.answer(1), s.answer(0), s.places(), s.now(), s.answers()]
        self.assertEqual(found, [[], [0], [2, 3, 5, 1], [0, 2, 3, 5, 1], (0, []), [1, 0]])


class Interface(unittest.TestCase):
    def test_the_class_stands_in_the_file_with_its_methods(self):
        self.assertEqual(Session.__module__, "finallycopies.sessions")
        self.assertEqual(list(inspect.signature(Session).parameters), ["code"])
        for name, arguments in METHODS.items():
            self.assertIn(name, vars(Session))
            self.assertEqual(list(inspect.signature(vars(Session)[name]).parameters), ["self"] + arguments)
        self.assertIn("__eq__", vars(Session))

    def test_arguments_by_name(self):
        s = Session(code=Code(WHILE))
        self.assertEqual([s.answer(value=1), s.undo(count=1), s.answers()], [[0], None, []])

    def test_kinds_of_values(self):
        s = Session(Code(WHILE))
        self.assertIsInstance(s.code(), Code)
        for value in (s.answers(), s.places(), s.answer(1), s.now()[1]):
            self.assertIsInstance(value, list)
        self.assertIsInstance(s.now(), tuple)
        self.assertIs(s.address().__class__, int)
        self.assertIs(s.undo(1), None)
        s.answer(0)
        self.assertEqual([s.address(), s.now()], ["end", ("end", [])])


class Steps(unittest.TestCase):
    def check(self, session, code, answers):
        """All that a session tells is what the runs with its answers tell."""
        direct = run(code, answers)
        self.assertEqual(session.answers(), answers)
        self.assertEqual(session.places(), direct.visited)
        self.assertEqual(session.now(), moment(code, answers))
        self.assertEqual(session.code(), code)
        self.assertEqual(session.address(), Lowered(code).address_after(answers))
        self.assertEqual(direct.used, len(answers))

    def refuse(self, session, ended):
        """Try calls that are refused."""
        for value in (2, True, None, []):
            with self.assertRaises(InvalidAnswers) as caught:
                session.answer(value)
            self.assertEqual(caught.exception.at, -1)
        for value in (-1, len(session.answers()) + 1, True, None, []):
            with self.assertRaises(InvalidBound) as caught:
                session.undo(value)
            self.assertIs(caught.exception.bound, value)
        if ended:
            with self.assertRaises(NotWaiting) as caught:
                session.answer(0)
            self.assertEqual(caught.exception.end, session.address())

    def test_answers_and_undo(self):
        chance = random.Random(16)
        for statement in SAMPLES:
            code = Code(statement)
            session = Session(code)
            answers = []
            self.check(session, code, answers)
            for _ in range(12):
                ended = isinstance(session.now()[0], str)
                self.refuse(session, ended)
                self.check(session, code, answers)
                if ended or chance.randrange(4) == 0:
                    count = chance.randint(0, len(answers))
                    self.assertIs(session.undo(count), None)
                    answers = answers[: len(answers) - count]
                else:
                    answer = chance.randint(0, 1)
                    before = session.places()
                    done = session.answer(answer)
                    answers = answers + [answer]
                    self.assertEqual(before + done, run(code, answers).visited)
                self.check(session, code, answers)

    def test_places_that_are_done_without_an_answer(self):
        s = Session(Code(("seq", (("do", "a"), ("do", "b"), ("call", "c"), ("do", "d")))))
        self.assertEqual([s.places(), s.now(), s.answers()], [[1, 2], (3, []), []])
        self.assertEqual([s.answer(0), s.places()], [[3, 4], [1, 2, 3, 4]])
        s.undo(1)
        self.assertEqual([s.places(), s.now()], [[1, 2], (3, [])])
        s = Session(Code(("seq", (("do", "a"), ("return",)))))
        self.assertEqual([s.places(), s.now(), s.address(), s.answers()], [[1, 2], ("return", []), "return", []])

    def test_pending_ways(self):
        s = Session(Code(("final", ("call", "x"), ("call", "y"))))
        self.assertEqual([s.answer(1), s.now()], [[1], (2, [(0, ("raise",))])])
        one = s.address()
        s.undo(1)
        self.assertEqual([s.answer(0), s.now()], [[1], (2, [(0, ("normal",))])])
        self.assertNotEqual(s.address(), one)
        self.assertEqual([s.answer(0), s.now()], [[2, 0], ("end", [])])

    def test_undo_all_and_none(self):
        s = Session(Code(WHILE))
        s.undo(0)
        for answer in (1, 0, 1, 1):
            s.answer(answer)
        self.assertEqual(s.now(), ("end", []))
        s.undo(0)
        self.assertEqual([s.answers(), s.now()], [[1, 0, 1, 1], ("end", [])])
        s.undo(4)
        self.assertEqual([s.answers(), s.places(), s.now()], [[], [], (0, [])])
        s.answer(1)
        s.answer(1)
        self.assertEqual([s.places(), s.address()], [[0, 2, 4, 5, 1], "end"])

    def test_two_hundred_answers(self):
        code = Code(ENDLESS)
        s = Session(code)
        for at in range(200):
            s.answer(1 if at % 2 == 0 else 0)
        self.check(s, code, [1, 0] * 100)
        for value in (0, 1):
            with self.assertRaises(LimitExceeded) as caught:
                s.answer(value)
            self.assertEqual(caught.exception.limit, 200)
        for value in NO_ANSWERS:
            with self.assertRaises(InvalidAnswers):
                s.answer(value)
        self.check(s, code, [1, 0] * 100)
        s.undo(1)
        s.answer(1)
        self.check(s, code, [1, 0] * 99 + [1, 1])

    def test_the_end_comes_before_the_limit(self):
        code = Code(WHILE)
        s = Session(code)
        for at in range(199):
            s.answer(1 if at % 2 == 0 else 0)
        s.answer(1)
        self.assertEqual([s.now(), len(s.answers())], [("end", []), 200])
        with self.assertRaises(NotWaiting) as caught:
            s.answer(0)
        self.assertEqual(caught.exception.end, "end")
        with self.assertRaises(InvalidAnswers):
            s.answer(2)
        self.check(s, code, [1, 0] * 99 + [1, 1])

    def test_large_codes(self):
        code = Code(("while", "a", flat(397)))
        s = Session(code)
        for _ in range(199):
            s.answer(1)
        self.assertEqual(len(s.places()), 199 * 397)
        s.undo(1)
        self.assertEqual([len(s.places()), s.address()], [198 * 397, Lowered(code).start()])


class Errors(unittest.TestCase):
    def test_no_answers(self):
        for statement, end in ((WHILE, None), (("return",), "return"), (("raise",), "raise"), (("do", "a"), "end")):
            s = Session(Code(statement))
            for value in NO_ANSWERS:
                with self.assertRaises(InvalidAnswers) as caught:
                    s.answer(value)
                self.assertEqual(caught.exception.at, -1)
            for value in (0, 1):
                if end is not None:
                    with self.assertRaises(NotWaiting) as caught:
                        s.answer(value)
                    self.assertEqual(caught.exception.end, end)

    def test_no_counts(self):
        s = Session(Code(WHILE))
        s.answer(1)
        s.answer(0)
        for value in NO_COUNTS + (3, 4):
            with self.assertRaises(InvalidBound) as caught:
                s.undo(value)
            self.assertIs(caught.exception.bound, value)
        self.assertEqual([s.answers(), s.places()], [[1, 0], [0, 2, 3, 5, 1]])
        s.undo(2)
        with self.assertRaises(InvalidBound) as caught:
            s.undo(1)
        self.assertEqual(caught.exception.bound, 1)


class Equality(unittest.TestCase):
    def test_equal_codes_and_answers(self):
        one, other = Session(Code(WHILE)), Session(Code(WHILE))
        self.assertTrue(one == other)
        self.assertFalse(one != other)
        one.answer(1)
        self.assertFalse(one == other)
        other.answer(0)
        self.assertFalse(one == other)
        other.undo(1)
        other.answer(1)
        self.assertTrue(one == other)
        one.answer(1)
        one.undo(1)
        one.address()
        self.assertTrue(one == other)

    def test_other_codes(self):
        self.assertFalse(Session(Code(WHILE)) == Session(Code(ENDLESS)))
        # The same places and moments, but other codes.
        one, other = Session(Code(("do", "a"))), Session(Code(("do", "b")))
        self.assertEqual([one.places(), one.now()], [other.places(), other.now()])
        self.assertFalse(one == other)
        self.assertTrue(one != other)

    def test_equal_to_nothing_else(self):
        s = Session(Code(WHILE))
        for value in (None, 0, [], (), "", Code(WHILE), Lowered(Code(WHILE)), run(Code(WHILE), []), Anything()):
            self.assertFalse(s == value)
            self.assertTrue(s != value)

    def test_after_different_ways_to_the_same_answers(self):
        for statement in SAMPLES[:20]:
            one, other = Session(Code(statement)), Session(Code(statement))
            given = 0
            while given < 5 and not isinstance(one.now()[0], str):
                one.answer(given % 2)
                given += 1
            for at in range(given):
                other.answer(at % 2)
                other.undo(1)
                other.answer(at % 2)
            self.assertTrue(one == other)
            self.assertEqual([one.now(), one.address(), one.places()], [other.now(), other.address(), other.places()])


class NewResults(unittest.TestCase):
    def test_changing_a_result_changes_no_later_one(self):
        s = Session(Code(("final", ("call", "x"), ("seq", (("do", "z"), ("call", "y"))))))
        s.answer(1).append(7)
        for asked in (s.answers, s.places, lambda: s.now()[1]):
            before = list(asked())
            asked().append(7)
            asked().insert(0, 7)
            self.assertEqual(asked(), before)
        self.assertEqual([s.answers(), s.places(), s.now()], [[1], [1, 3], (4, [(0, ("raise",))])])

    def test_two_sessions_of_one_code(self):
        code = Code(MIXED)
        one, other = Session(code), Session(code)
        one.answer(0)
        self.assertEqual([other.answers(), other.places()], [[], run(code, []).visited])
        other.answer(1)
        other.answer(1)
        self.assertEqual([one.answers(), other.answers()], [[0], [1, 1]])
        one.undo(1)
        self.assertEqual([other.places(), other.now()], [run(code, [1, 1]).visited, moment(code, [1, 1])])
        self.assertEqual(code, Code(MIXED))


if __name__ == "__main__":
    unittest.main()
