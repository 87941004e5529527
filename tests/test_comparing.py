"""Points 1, 2, 30 and 31: whether codes have the same steps, and codes without what is dead."""

import inspect
import random
import unittest

import reference
from finallycopies import comparing as module
from finallycopies.code import Code
from finallycopies.comparing import same_steps, without_dead
from finallycopies.errors import LimitExceeded
from finallycopies.runs import run
from finallycopies.texts import show
from finallycopies.ways import dead
from samples import DROPPING, MIXED, WHILE, all_of_size, chain, flat, random_statements
from towers import THREE, breaking, tower

CONTINUING = ("while", "a", ("final", ("if", "b", ("do", "x"), ("continue", 1)), ("do", "y")))
SHOWN = ("do", "call", "if", "while")
SAMPLES = [WHILE, MIXED, DROPPING, CONTINUING, tower(2, THREE), breaking(2)]
SAMPLES += random_statements(46, 150, range(3, 14), 6)


def steps(statement, answers):
    """(The shown steps, the number of used answers, the end) of a run by the rules."""
    nodes = reference.Node(statement).all()
    visited, used, end, _ = reference.direct(statement, answers)
    return [nodes[place].statement[:2] for place in visited if nodes[place].kind in SHOWN], used, end


def first_difference(one, other, longest):
    for answers in reference.lists_up_to(longest):
        if steps(one, answers) != steps(other, answers):
            return answers
    return None


def calls(count, last="a"):
    """So many calls one after another; the last one has a name of its own."""
    return ("seq", (("call", "a"),) * (count - 1) + (("call", last),))


def ring(count, last="b"):
    """Whiles one within another that do the same steps as a while with one do in it."""
    made = ("while", "a", ("seq", (("do", last), ("continue", count))))
    for _ in range(count - 1):
        made = ("while", "a", ("seq", (("do", "b"), made, ("break", 1))))
    return made


def changed(chance, statement):
    """The statement with a part of it exchanged for another statement without jumps."""
    if chance.randrange(3) == 0 or not reference.inner(statement):
        return chance.choice([("do", "a"), ("do", "b"), ("call", "a"), ("return",), ("raise",), ("seq", (statement,))])
    if statement[0] == "seq":
        parts = list(statement[1])
        at = chance.randrange(len(parts))
        parts[at] = changed(chance, parts[at])
        return ("seq", tuple(parts))
    items = list(statement)
    at = chance.choice([at for at, item in enumerate(items) if isinstance(item, tuple)])
    items[at] = changed(chance, items[at])
    return tuple(items)


class Examples(unittest.TestCase):
    def test_e21(self):
        c, d = Code(WHILE), Code(CONTINUING)
        self.assertEqual([same_steps(c, d), same_steps(c, c)], [[1, 1], None])

    def test_e22(self):
        z = Code(("seq", (("return",), ("do", "a"))))
        self.assertEqual(show(without_dead(z)), "seq 1 return")


class Interface(unittest.TestCase):
    def test_functions_stand_in_the_file(self):
        for name, names in (("same_steps", ["one", "other"]), ("without_dead", ["code"])):
            made = getattr(module, name)
            self.assertEqual(made.__module__, "finallycopies.comparing")
            self.assertEqual(list(inspect.signature(made).parameters), names)

    def test_arguments_by_name(self):
        self.assertEqual(same_steps(other=Code(CONTINUING), one=Code(WHILE)), [1, 1])
        self.assertEqual(without_dead(code=Code(WHILE)), Code(WHILE))

    def test_kinds_of_values(self):
        self.assertIsInstance(same_steps(Code(WHILE), Code(CONTINUING)), list)
        self.assertIs(same_steps(Code(WHILE), Code(WHILE)), None)
        self.assertIsInstance(without_dead(Code(WHILE)), Code)


class SameSteps(unittest.TestCase):
    def compare(self, one, other):
        """Compare with a search, also for the codes exchanged; tell the result."""
        found = same_steps(Code(one), Code(other))
        longest = 6 if found is None else len(found)
        if longest <= 9:
            self.assertEqual(first_difference(one, other, longest), found, (one, other))
        self.assertEqual(same_steps(Code(other), Code(one)), found)
        return found

    def test_small_codes(self):
        codes = all_of_size(1, 0) + all_of_size(2, 0) + all_of_size(3, 0)[::3]
        for one in codes:
            for other in codes:
                self.compare(one, other)

    def test_larger_codes_with_a_change(self):
        chance = random.Random(13)
        same = []
        for statement in SAMPLES:
            for _ in range(3):
                same.append(self.compare(statement, changed(chance, statement)) is None)
        self.assertGreater(same.count(True), 60)
        self.assertGreater(same.count(False), 200)

    def test_the_same_code(self):
        for statement in SAMPLES:
            self.assertIs(same_steps(Code(statement), Code(statement)), None)

    def test_numbers_of_statements_do_not_count(self):
        self.assertIs(self.compare(("do", "a"), ("seq", (("seq", (("do", "a"),)),))), None)
        self.assertIs(self.compare(("do", "a"), ("try", ("do", "a"), ("do", "b"))), None)
        self.assertIs(self.compare(("return",), ("seq", (("return",), ("do", "a")))), None)
        one = ("while", "w", ("seq", (("do", "a"), ("continue", 1))))
        self.assertIs(self.compare(one, ("while", "w", ("do", "a"))), None)

    def test_names_and_kinds_count(self):
        self.assertEqual(self.compare(("do", "a"), ("do", "b")), [])
        self.assertEqual(self.compare(("call", "a"), ("call", "b")), [0])
        self.assertEqual(self.compare(("while", "a", ("do", "b")), ("if", "a", ("do", "b"), ("do", "b"))), [0])
        self.assertEqual(self.compare(("call", "a"), ("while", "a", ("do", "b"))), [0])
        self.assertEqual(self.compare(("do", "a"), ("call", "a")), [])
        self.assertEqual(self.compare(("return",), ("raise",)), [])
        self.assertEqual(self.compare(("return",), ("seq", (("do", "a"), ("return",)))), [])

    def test_where_runs_wait_counts_with_the_next_answer(self):
        one = ("seq", (("call", "a"), ("call", "b")))
        other = ("seq", (("call", "a"), ("call", "c")))
        self.assertEqual(self.compare(one, other), [0, 0])
        self.assertEqual(self.compare(one, ("call", "a")), [0])

    def test_the_first_of_equally_short_lists(self):
        one = ("if", "a", ("call", "b"), ("call", "c"))
        self.assertEqual(self.compare(one, ("if", "a", ("call", "x"), ("call", "y"))), [0, 0])
        self.assertEqual(self.compare(one, ("if", "a", ("call", "b"), ("call", "y"))), [1, 0])
        self.assertEqual(self.compare(one, ("if", "a", ("call", "x"), ("do", "c"))), [1])
        self.assertEqual(self.compare(one, ("if", "a", ("call", "b"), ("try", ("call", "c"), ("do", "d")))), [1, 1])

    def test_what_is_pending_counts(self):
        one = ("final", ("call", "a"), ("call", "b"))
        self.assertIs(self.compare(one, ("try", one, ("raise",))), None)
        self.assertEqual(self.compare(one, ("seq", (("try", ("call", "a"), ("do", "x")), ("call", "b")))), [1])
        self.assertEqual(self.compare(one, ("seq", (("try", ("call", "a"), ("return",)), ("call", "b")))), [1])
        # Without the finally block it is written twice.
        twice = ("seq", (("try", ("call", "a"), ("seq", (("call", "b"), ("raise",)))), ("call", "b")))
        self.assertIs(self.compare(one, twice), None)

    def test_what_is_dead_does_not_count(self):
        for block in (("do", "y"), ("call", "z"), ("while", "w", ("do", "v"))):
            self.assertIs(self.compare(("seq", (("return",), block)), ("return",)), None)
            self.assertIs(self.compare(("try", ("do", "a"), block), ("do", "a")), None)

    def test_long_lists(self):
        for count in (2, 20, 50):
            self.assertEqual(same_steps(Code(calls(count)), Code(calls(count, "b"))), [0] * count)
            one = ("seq", (calls(count), ("do", "a")))
            self.assertEqual(same_steps(Code(one), Code(calls(count))), [0] * count)

    def test_exactly_a_hundred_pairs(self):
        # Each call is waited at once, and the last one is the first that differs.
        self.assertEqual(same_steps(Code(calls(100)), Code(calls(100, "b"))), [0] * 100)
        self.assertIs(same_steps(Code(calls(100)), Code(calls(100))), None)
        for one, other in ((calls(101), calls(101, "b")), (calls(101), calls(101)), (calls(399), calls(398))):
            with self.assertRaises(LimitExceeded) as caught:
                same_steps(Code(one), Code(other))
            self.assertEqual(caught.exception.limit, 100)
        # A difference that is found earlier comes before the limit.
        self.assertEqual(same_steps(Code(calls(399)), Code(calls(99, "b"))), [0] * 99)

    def test_pairs_of_different_addresses(self):
        # Each while of one ring meets each one of the other, if the lengths have no common factor.
        for one, other in ((1, 1), (1, 30), (9, 11), (4, 25), (10, 10), (10, 20), (5, 20)):
            self.assertIs(same_steps(Code(ring(one)), Code(ring(other))), None)
            self.assertIs(same_steps(Code(ring(other)), Code(ring(one))), None)
        for one, other in ((10, 11), (11, 10), (4, 27)):
            with self.assertRaises(LimitExceeded) as caught:
                same_steps(Code(ring(one)), Code(ring(other)))
            self.assertEqual(caught.exception.limit, 100)

    def test_differences_in_rings(self):
        for one, other in ((1, 9), (4, 5), (3, 7)):
            found = same_steps(Code(ring(one)), Code(ring(other, "c")))
            self.assertEqual(found, [1] * other)
        self.assertEqual(same_steps(Code(ring(4, "c")), Code(ring(6, "c"))), [1] * 4)
        self.assertIs(same_steps(Code(ring(3, "c")), Code(ring(3, "c"))), None)

    def test_very_many_addresses(self):
        statement = tower(25, ("call", "x"))
        with self.assertRaises(LimitExceeded):
            same_steps(Code(statement), Code(statement))
        self.assertEqual(same_steps(Code(statement), Code(("call", "x"))), [0])
        self.assertEqual(same_steps(Code(tower(4, ("call", "x"))), Code(tower(5, ("call", "x")))), [0, 0, 0, 0])

    def test_steps_between_answers(self):
        one, other = ("while", "a", flat(397)), ("while", "a", flat(397, ("do", "b")))
        self.assertIs(same_steps(Code(one), Code(one)), None)
        self.assertEqual(same_steps(Code(one), Code(other)), [1])


class WithoutDead(unittest.TestCase):
    def check(self, statement):
        code = Code(statement)
        found = without_dead(code)
        self.assertEqual(dead(found), [], statement)
        self.assertEqual(without_dead(found), found, statement)
        for answers in reference.lists_up_to(5):
            self.assertEqual(steps(found[0], answers), steps(statement, answers), statement)
        self.assertIs(same_steps(code, found), None)
        self.assertEqual(found == code, dead(code) == [])
        return found

    def test_small_codes(self):
        for size in range(1, 5):
            for statement in all_of_size(size, 0):
                self.check(statement)

    def test_larger_codes(self):
        for statement in SAMPLES + random_statements(47, 150, range(5, 20), 6):
            self.check(statement)

    def left(self, statement, wanted):
        self.assertEqual(without_dead(Code(statement)), Code(wanted))
        self.assertEqual(without_dead(Code(statement))[0], wanted)

    def test_parts_of_a_seq(self):
        self.left(("seq", (("return",), ("do", "a"))), ("seq", (("return",),)))
        self.left(("seq", (("do", "a"), ("raise",), ("do", "b"), ("call", "c"))), ("seq", (("do", "a"), ("raise",))))
        self.left(("seq", (("call", "a"), ("do", "b"))), ("seq", (("call", "a"), ("do", "b"))))
        inner = ("seq", (("seq", (("return",), ("do", "a"))), ("seq", (("do", "b"), ("do", "c")))))
        self.left(inner, ("seq", (("seq", (("return",),)),)))

    def test_parts_behind_ifs_and_whiles(self):
        statement = ("seq", (("if", "a", ("return",), ("raise",)), ("do", "b")))
        self.left(statement, ("seq", (("if", "a", ("return",), ("raise",)),)))
        statement = ("seq", (("if", "a", ("return",), ("do", "c")), ("do", "b")))
        self.left(statement, statement)
        statement = ("seq", (("while", "a", ("seq", (("break", 1), ("do", "b")))), ("do", "c")))
        self.left(statement, ("seq", (("while", "a", ("seq", (("break", 1),))), ("do", "c"))))

    def test_handlers(self):
        self.left(("try", ("do", "a"), ("do", "b")), ("do", "a"))
        self.left(("try", ("call", "a"), ("do", "b")), ("try", ("call", "a"), ("do", "b")))
        self.left(("try", ("try", ("call", "a"), ("do", "b")), ("do", "c")), ("try", ("call", "a"), ("do", "b")))
        self.left(("try", ("try", ("do", "a"), ("do", "b")), ("do", "c")), ("do", "a"))
        self.left(("try", ("final", ("raise",), ("return",)), ("do", "c")), ("final", ("raise",), ("return",)))
        self.left(("try", ("seq", (("return",), ("raise",))), ("do", "c")), ("seq", (("return",),)))
        statement = ("try", ("raise",), ("seq", (("return",), ("do", "a"))))
        self.left(statement, ("try", ("raise",), ("seq", (("return",),))))

    def test_parts_of_a_seq_that_are_tries(self):
        statement = ("seq", (("try", ("return",), ("do", "a")), ("try", ("do", "b"), ("do", "c"))))
        self.left(statement, ("seq", (("return",),)))
        statement = ("final", ("try", ("do", "a"), ("raise",)), ("try", ("break", 1), ("do", "c")))
        self.left(("while", "w", statement), ("while", "w", ("final", ("do", "a"), ("break", 1))))

    def test_behind_finals_that_are_never_left_normally(self):
        statement = ("seq", (("final", ("call", "a"), ("return",)), ("do", "b")))
        self.left(statement, ("seq", (("final", ("call", "a"), ("return",)),)))
        statement = ("seq", (("final", ("return",), ("call", "a")), ("do", "b")))
        self.left(statement, ("seq", (("final", ("return",), ("call", "a")),)))
        statement = ("try", statement, ("do", "c"))
        self.left(statement, ("try", ("seq", (("final", ("return",), ("call", "a")),)), ("do", "c")))

    def test_large_codes(self):
        for kind in ("while", "if", "other", "seq", "body"):
            made = chain(kind, 99, ("do", "a"))
            self.left(made, made)
        self.left(chain("try", 99, ("do", "a")), ("do", "a"))
        self.left(("seq", (("return",),) + (("do", "a"),) * 398), ("seq", (("return",),)))
        found = without_dead(Code(chain("try", 99, ("call", "a"))))
        self.assertEqual(found, Code(("try", ("call", "a"), ("do", "z"))))

    def test_the_code_that_is_passed_stays(self):
        code = Code(("seq", (("return",), ("do", "a"))))
        without_dead(code)
        self.assertEqual([code, len(code), dead(code)], [Code(("seq", (("return",), ("do", "a")))), 3, [2]])


class NewResults(unittest.TestCase):
    def test_changing_a_result_changes_no_later_one(self):
        c, d = Code(WHILE), Code(CONTINUING)
        same_steps(c, d).append(7)
        self.assertEqual(same_steps(c, d), [1, 1])

    def test_equal_codes_give_equal_results(self):
        for statement in SAMPLES[:30]:
            self.assertEqual(without_dead(Code(statement)), without_dead(Code(statement)))
            self.assertEqual(same_steps(Code(statement), Code(WHILE)), same_steps(Code(statement), Code(WHILE)))

    def test_runs_of_both_codes(self):
        for statement in SAMPLES[:30]:
            found = without_dead(Code(statement))
            for answers in reference.lists_up_to(4):
                one, other = run(Code(statement), answers), run(found, answers)
                self.assertEqual([one.used, one.end], [other.used, other.end])


if __name__ == "__main__":
    unittest.main()
