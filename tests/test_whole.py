"""Points 2, 3 and 4 over the whole program, and the interface."""

import importlib
import inspect
import random
import unittest

import reference
from finallycopies.code import Code
from finallycopies.comparing import same_steps, without_dead
from finallycopies.counts import all_moments, copies, most_copied, total
from finallycopies.errors import CopyError, LimitExceeded
from finallycopies.flags import dispatches, fewest_flags, total_with
from finallycopies.leavings import arrives, droppers, leaving_route, never_arriving
from finallycopies.lowered import Lowered
from finallycopies.routes import behind, copies_here, needed, route, sharing
from finallycopies.runs import moment, run
from finallycopies.sessions import Session
from finallycopies.tables import check_table, merged, table
from finallycopies.texts import read, show
from finallycopies.ways import dead, place_answers, reached, way_answers, ways
from samples import DROPPING, MIXED, WHILE, chain, flat, random_statements
from towers import THREE, breaking, scattered, tower

# For each file its functions and classes with the names of their arguments.
INTERFACE = {
    "errors": {
        "CopyError": None,
        "InvalidCode": "number",
        "InvalidNumber": "number",
        "InvalidAnswers": "at",
        "InvalidWay": "way",
        "InvalidTable": "at",
        "InvalidFinals": "at",
        "InvalidBound": "bound",
        "InvalidText": "at",
        "NotWaiting": "end",
        "LimitExceeded": "limit",
    },
    "wholes": {"is_integer": "value"},
    "code": {"Code": "statement"},
    "runs": {"Run": "visited used end", "run": "code answers", "moment": "code answers"},
    "ways": {
        "ways": "code number",
        "way_answers": "code number way",
        "place_answers": "code place",
        "reached": "code",
        "dead": "code",
    },
    "routes": {
        "route": "code number way",
        "behind": "code final",
        "sharing": "code final",
        "copies_here": "code final",
        "needed": "code place",
    },
    "counts": {
        "moments": "code place",
        "copies": "code place",
        "all_moments": "code",
        "total": "code",
        "most_copied": "code",
    },
    "lowered": {"Lowered": "code"},
    "tables": {"table": "code", "check_table": "code rows", "merged": "code rows"},
    "flags": {
        "total_with": "code finals",
        "dispatches": "code finals answers",
        "fewest_flags": "code most",
    },
    "leavings": {
        "leaving_route": "code place",
        "droppers": "code place",
        "arrives": "code place",
        "never_arriving": "code",
    },
    "comparing": {"same_steps": "one other", "without_dead": "code"},
    "texts": {"show": "code", "read": "text"},
    "sessions": {"Session": "code"},
}
METHODS = {
    ("code", "Code"): {
        "kind": "number",
        "parent": "number",
        "parts": "number",
        "places": "",
        "entry": "number",
        "layers": "place",
    },
    ("lowered", "Lowered"): {
        "code": "",
        "total": "",
        "start": "",
        "place": "address",
        "known": "address",
        "row": "address",
        "trace": "answers",
        "address_after": "answers",
        "answers_to": "address",
    },
    ("sessions", "Session"): {
        "answer": "value",
        "undo": "count",
        "code": "",
        "answers": "",
        "places": "",
        "now": "",
        "address": "",
    },
}
SAMPLES = [WHILE, MIXED, DROPPING] + random_statements(50, 12, range(6, 14), 6)


class Interface(unittest.TestCase):
    def test_functions_and_classes(self):
        for file, names in INTERFACE.items():
            module = importlib.import_module(f"finallycopies.{file}")
            for name, arguments in names.items():
                made = getattr(module, name)
                self.assertEqual([made.__module__, made.__name__], [f"finallycopies.{file}", name])
                if arguments is not None:
                    self.assertEqual(list(inspect.signature(made).parameters), arguments.split())

    def test_methods_stand_in_their_classes(self):
        for (file, name), methods in METHODS.items():
            made = getattr(importlib.import_module(f"finallycopies.{file}"), name)
            for method, arguments in methods.items():
                self.assertIn(method, vars(made))
                self.assertEqual(list(inspect.signature(vars(made)[method]).parameters), ["self"] + arguments.split())
        for file, name in (("code", "Code"), ("runs", "Run"), ("sessions", "Session")):
            self.assertIn("__eq__", vars(getattr(importlib.import_module(f"finallycopies.{file}"), name)))
        self.assertIn("__len__", vars(Code))
        self.assertIn("__getitem__", vars(Code))

    def test_errors_are_direct_subclasses(self):
        module = importlib.import_module("finallycopies.errors")
        for name, arguments in INTERFACE["errors"].items():
            made = getattr(module, name)
            if name == "CopyError":
                self.assertEqual(made.__bases__, (ArithmeticError,))
                continue
            self.assertEqual(made.__bases__, (CopyError,))
            value = []
            self.assertIs(getattr(made(**{arguments: value}), arguments), value)


def questions(statement):
    """All that can be asked about a code, each as a function of a new code."""
    code = Code(statement)
    found = [reached, dead, all_moments, total, most_copied, never_arriving, show, Code.places]
    found += [lambda code: without_dead(code)[0], lambda code: same_steps(code, Code(WHILE))]
    found += [table, lambda code: check_table(code, [(code.entry(0),) + ("end",) * 2]) if asks(code) else None]
    for number in range(len(code)):
        found.append(lambda code, number=number: ways(code, number))
        found.append(lambda code, number=number: [code.kind(number), code.parts(number), code.entry(number)])
        for way in ways(code, number):
            found.append(lambda code, number=number, way=way: way_answers(code, number, way))
            found.append(lambda code, number=number, way=way: route(code, number, way))
        if code.kind(number) == "final":
            found.append(lambda code, number=number: [behind(code, number), sharing(code, number)])
            found.append(lambda code, number=number: [copies_here(code, number), total_with(code, [number])])
            found.append(lambda code, number=number: dispatches(code, [number], [1, 0, 1]))
    for place in code.places():
        found.append(lambda code, place=place: [needed(code, place), place_answers(code, place)])
        found.append(lambda code, place=place: [copies(code, place), code.layers(place)])
        if code.kind(place) in ("call", "break", "continue", "return", "raise"):
            found.append(lambda code, place=place: [leaving_route(code, place), droppers(code, place)])
            found.append(lambda code, place=place: arrives(code, place))
    for answers in reference.lists_up_to(3):
        found.append(lambda code, answers=answers: [run(code, answers).visited, moment(code, answers)])
        found.append(lambda code, answers=answers: Lowered(code).trace(answers))
    found.append(lambda code: fewest_flags(code, total(code) - 1))
    return found


def asks(code):
    return code.kind(code.entry(0)) in ("call", "if", "while")


def asked(question, code):
    try:
        return repr(question(code))
    except CopyError as error:
        return repr([error.__class__, vars(error)])


class Repeated(unittest.TestCase):
    def test_equal_arguments_give_equal_results_whatever_was_asked_before(self):
        chance = random.Random(17)
        for statement in SAMPLES:
            every = questions(statement)
            wanted = [asked(question, Code(statement)) for question in every]
            code = Code(statement)
            order = list(range(len(every))) * 2
            chance.shuffle(order)
            for at in order:
                self.assertEqual(asked(every[at], code), wanted[at])
            self.assertEqual(code, Code(statement))
            self.assertEqual(code[0], statement)

    def test_lowered_programs_are_asked_in_any_order(self):
        chance = random.Random(18)
        for statement in SAMPLES:
            low = Lowered(Code(statement))
            every = [lambda low, at=at: [low.row(at), low.known(at), low.answers_to(at)] for at in range(low.total())]
            every += [lambda low, answers=answers: low.trace(answers) for answers in reference.lists_up_to(3)]
            wanted = [repr(question(Lowered(Code(statement)))) for question in every]
            order = list(range(len(every))) * 2
            chance.shuffle(order)
            for at in order:
                self.assertEqual(repr(every[at](low)), wanted[at])


class Guarantee(unittest.TestCase):
    """The main guarantee, from the code to its text, its table and back."""

    def test_all_that_runs_like_a_code(self):
        for statement in SAMPLES:
            code = read(show(Code(statement)))
            low = Lowered(code)
            rows = table(code)
            self.assertEqual([len(rows), low.total()], [total(code), total(code)])
            self.assertIs(check_table(code, rows), None)
            self.assertEqual(merged(code, rows * (200 // len(rows))), rows)
            for answers in reference.lists_up_to(6):
                direct = run(code, answers)
                addresses, used, end = low.trace(answers)
                self.assertEqual([low.place(address) for address in addresses], direct.visited)
                self.assertEqual([used, end], [direct.used, direct.end])
                session = Session(code)
                for answer in answers[: direct.used]:
                    session.answer(answer)
                self.assertEqual([session.places(), session.address()], [direct.visited, low.address_after(answers)])

    def test_no_table_with_fewer_rows(self):
        # Any two rows of a table of a code are unlike, so that none can be left out.
        for statement in SAMPLES:
            code = Code(statement)
            rows = table(code)
            for at in range(1, len(rows)):
                for other in range(at):
                    joined = [(row[0], *[other if item == at else item for item in row[1:]]) for row in rows]
                    self.assertIsNot(check_table(code, joined), None)


class Limits(unittest.TestCase):
    """Nothing fails for codes up to the limits."""

    def test_large_codes(self):
        statements = [chain(kind, 99, ("call", "a")) for kind in ("while", "if", "other", "seq", "try", "body")]
        statements += [chain("block", 25, ("call", "a")), flat(400), tower(25, THREE), breaking(25), scattered(17, 8)]
        statements += [("while", "w", ("seq", (("final", ("call", "a"), ("call", "b")),) * 132))]
        for statement in statements:
            code = Code(statement)
            self.assertEqual(read(show(code)), code)
            low = Lowered(code)
            self.assertEqual(low.total(), total(code))
            self.assertEqual(low.known(low.start()), [])
            for address in (0, low.total() - 1):
                answers = low.answers_to(address)
                self.assertIn(address, low.trace(answers)[0] + [low.address_after(answers)])
            self.assertEqual(same_steps_or_limit(code, without_dead(code)), None)
            self.assertLessEqual(set(never_arriving(code)), set(reached(code)))
            session = Session(code)
            while not isinstance(session.now()[0], str) and len(session.answers()) < 200:
                session.answer(len(session.answers()) % 2)
            self.assertEqual(session.address(), low.address_after(session.answers()))


def same_steps_or_limit(one, other):
    try:
        return same_steps(one, other)
    except LimitExceeded as error:
        return None if error.limit == 100 else error


if __name__ == "__main__":
    unittest.main()
