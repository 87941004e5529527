"""Points 5 and 6: what is accepted as a code, and which error is raised for what is not."""

import unittest

from finallycopies.code import Code
from finallycopies.errors import InvalidCode, LimitExceeded
from samples import Anything, chain, flat

NO_STATEMENTS = (None, True, 0, 7, "", "do", "return", b"do", [], ["do", "a"], ["return"], {}, {"do": "a"}, {1})
NO_STATEMENTS += ((), object(), 1j, tuple, Code, ((),), (("do", "a"),), (None,), (True,), ([],), ({}, "a"))


class Cases(unittest.TestCase):
    def assert_invalid(self, statement, number):
        with self.assertRaises(InvalidCode) as caught:
            Code(statement)
        self.assertEqual(caught.exception.number, number)

    def assert_limit(self, statement, limit):
        with self.assertRaises(LimitExceeded) as caught:
            Code(statement)
        self.assertEqual(caught.exception.limit, limit)


class WrongStatements(Cases):
    def test_e03(self):
        self.assert_invalid(("seq", (("do", "a"), ("break", 1))), 2)

    def test_other_values(self):
        for value in NO_STATEMENTS:
            self.assert_invalid(value, 0)
            self.assert_invalid(("while", "a", value), 1)
            self.assert_invalid(("if", "a", ("do", "b"), value), 2)
            self.assert_invalid(("seq", (("try", ("do", "a"), ("do", "b")), value)), 4)
            self.assert_invalid(("final", ("seq", (("do", "a"),)), value), 3)

    def test_wrong_lengths(self):
        right = [("do", "a"), ("call", "a"), ("if", "a", ("do", "a"), ("do", "a")), ("while", "a", ("do", "a"))]
        right += [("seq", (("do", "a"),)), ("break", 1), ("continue", 1), ("return",), ("raise",)]
        right += [("try", ("do", "a"), ("do", "a")), ("final", ("do", "a"), ("do", "a"))]
        for statement in right:
            Code(("while", "w", statement))
            for more in (None, "a", 1, (), ("do", "a")):
                self.assert_invalid(("while", "w", statement + (more,)), 1)
            self.assert_invalid(("while", "w", statement[:-1]), 1)
            self.assert_invalid(("while", "w", list(statement)), 1)

    def test_unknown_kinds(self):
        for kind in ("", "DO", "Do", "do ", " do", "for", "pass", "finally", "else", "raises", "d"):
            for rest in ((), ("a",), (1,), ("a", ("do", "a")), (("do", "a"), ("do", "a"))):
                self.assert_invalid((kind,) + rest, 0)

    def test_kinds_that_are_no_strings(self):
        for kind in (None, 0, 1, True, b"do", ("do",), ["do"], [], {}, {"do"}, object(), Anything(), Code):
            for rest in ((), ("a",), (1,), ("a", ("do", "a")), (("do", "a"), ("do", "a"))):
                self.assert_invalid((kind,) + rest, 0)

    def test_bad_names(self):
        names = ["", "abcdefghi", "a" * 5000, "A", "aB", "a1", "1", "a_b", " ", "a b", "a-", "`", "{", "a\n"]
        names += [None, 0, 1, True, b"a", [], ["a"], ("a",), {}, {"a"}, object(), Anything()]
        for name in names:
            self.assert_invalid(("do", name), 0)
            self.assert_invalid(("call", name), 0)
            self.assert_invalid(("if", name, ("do", "a"), ("do", "a")), 0)
            self.assert_invalid(("seq", (("while", name, ("do", "a")),)), 1)

    def test_good_names(self):
        for name in ("a", "z", "abcdefgh", "zzzzzzzz", "do", "while", "return", "az"):
            Code(("do", name))
            Code(("call", name))
            Code(("if", name, ("do", name), ("do", name)))
            Code(("while", name, ("do", name)))

    def test_bad_seqs(self):
        one = ("do", "a")
        for parts in ((), [], [one], None, "", "ab", 1, True, {}, {one}, {one: one}, b"a", object(), Anything()):
            self.assert_invalid(("seq", parts), 0)
            self.assert_invalid(("seq", (one, ("seq", parts))), 2)
        # This tuple of parts is no tuple of statements: its items are judged one by one.
        self.assert_invalid(("seq", one), 1)
        self.assert_invalid(("seq", one, one), 0)

    def test_bad_numbers(self):
        for kind in ("break", "continue"):
            for number in (0, -1, -(10**39), True, False, None, "1", b"1", (), (1,), [], [1], {}, 1j, Anything()):
                self.assert_invalid(("while", "a", ("while", "b", (kind, number))), 2)

    def test_numbers_and_the_whiles_around(self):
        for kind in ("break", "continue"):
            for whiles in range(5):
                for number in range(1, 5):
                    statement = chain("while", whiles, (kind, number))
                    if number <= whiles:
                        self.assertEqual(Code(statement)[whiles], (kind, number))
                    else:
                        self.assert_invalid(statement, whiles)
            self.assertEqual(len(Code(chain("while", 99, (kind, 99)))), 100)
            self.assert_invalid(chain("while", 99, (kind, 100)), 99)
            self.assert_invalid(chain("while", 3, (kind, 10**39)), 3)

    def test_whiles_count_through_all_that_is_between(self):
        jump = ("break", 2)
        for kind in ("if", "seq", "try", "body", "other", "block"):
            code = Code(("while", "a", chain(kind, 2, ("while", "b", chain(kind, 2, jump)))))
            self.assertEqual([code[at] for at in range(len(code))].count(jump), 1)

    def test_whiles_beside_are_not_around(self):
        beside = ("while", "a", ("do", "b"))
        self.assert_invalid(("seq", (beside, ("break", 1))), 3)
        self.assert_invalid(("while", "c", ("seq", (beside, ("continue", 2)))), 4)
        self.assert_invalid(("if", "c", beside, ("break", 1)), 3)
        self.assert_invalid(("final", beside, ("break", 1)), 3)
        self.assert_invalid(("try", beside, ("break", 1)), 3)


class FirstInPreorder(Cases):
    def test_an_object_is_judged_before_its_parts(self):
        self.assert_invalid(("if", "A", None, None), 0)
        self.assert_invalid(("while", 1, None), 0)
        self.assert_invalid(("seq", [None]), 0)
        self.assert_invalid(("try", None, None, None), 0)
        self.assert_invalid(("while", "a", ("if", "", None, ("break", 5))), 1)

    def test_parts_do_not_spoil_the_object(self):
        self.assert_invalid(("if", "a", None, None), 1)
        self.assert_invalid(("seq", (None,)), 1)
        self.assert_invalid(("try", None, None), 1)
        self.assert_invalid(("final", (), ()), 1)
        self.assert_invalid(("while", "a", ("do",)), 1)

    def test_the_first_one(self):
        bad = ("do", "")
        inner = ("seq", (("do", "a"), ("try", ("do", "b"), ("do", "c"))))
        self.assert_invalid(("if", "a", bad, bad), 1)
        self.assert_invalid(("if", "a", inner, bad), 6)
        self.assert_invalid(("final", ("seq", (inner, bad)), bad), 7)
        self.assert_invalid(("seq", (inner, inner, ("while", "w", bad), bad)), 12)
        # All that is in a part comes before the next part.
        self.assert_invalid(("try", ("while", "a", ("seq", (("do", "b"), bad))), bad), 4)


class Limits(Cases):
    def test_statements(self):
        self.assertEqual(len(Code(flat(400))), 400)
        self.assert_limit(flat(401), 400)
        self.assert_limit(flat(450), 400)
        self.assertEqual(len(Code(("if", "a", flat(199), flat(200)))), 400)
        self.assert_limit(("if", "a", flat(200), flat(200)), 400)

    def test_levels(self):
        for kind in ("while", "if", "other", "seq", "try", "body"):
            code = Code(chain(kind, 99, ("do", "a")))
            self.assertIn(("do", "a"), [code[at] for at in range(len(code))])
            self.assertEqual(code.parent(code.parts(0)[0]), 0)
            self.assert_limit(chain(kind, 100, ("do", "a")), 100)
            self.assert_limit(chain(kind, 120, ("do", "a")), 100)

    def test_blocks(self):
        self.assertEqual(len(Code(chain("block", 25, ("do", "a")))), 51)
        self.assert_limit(chain("block", 26, ("do", "a")), 25)
        self.assert_limit(chain("block", 30, ("do", "a")), 25)

    def test_only_blocks_that_stand_one_within_another_count(self):
        self.assertEqual(len(Code(chain("body", 60, ("do", "a")))), 121)
        both = ("final", chain("block", 25, ("do", "a")), chain("block", 24, ("do", "a")))
        self.assertEqual(len(Code(both)), 101)
        both = ("final", chain("block", 24, ("do", "a")), chain("block", 25, ("do", "a")))
        self.assert_limit(both, 25)

    def test_a_final_in_25_blocks_stands_in_25_only(self):
        self.assert_invalid(chain("block", 25, ("final", None, None)), 51)
        self.assert_limit(chain("block", 25, ("final", ("do", "a"), None)), 25)

    def test_what_is_wrong_behind_does_not_count(self):
        self.assert_limit(("seq", (("do", "a"),) * 400 + (None,)), 400)
        self.assert_limit(("if", "a", flat(401), None), 400)
        self.assert_limit(("if", "a", chain("seq", 99, ("do", "a")), None), 100)
        self.assert_limit(("seq", (chain("block", 26, ("do", "a")), None)), 25)
        self.assert_limit(("seq", (chain("block", 26, ("do", "a")), flat(401))), 25)
        self.assert_limit(("seq", (chain("seq", 99, ("do", "a")), chain("block", 26, ("do", "a")))), 100)
        self.assert_limit(("if", "a", flat(401), chain("seq", 120, ("do", "a"))), 400)

    def test_what_is_wrong_before_counts(self):
        self.assert_invalid(("seq", (None, chain("block", 26, ("do", "a")))), 1)
        self.assert_invalid(("if", "a", ("do", ""), chain("seq", 120, ("do", "a"))), 1)
        self.assert_invalid(("seq", (("do", "a"),) * 398 + (None,) * 2), 399)
        self.assert_invalid(chain("seq", 99, None), 99)

    def test_the_limits_come_first_for_one_object(self):
        self.assert_limit(flat(401, None), 400)
        self.assert_limit(chain("seq", 100, None), 100)
        self.assert_limit(chain("block", 26, None), 25)

    def test_statements_come_before_levels(self):
        # None stands on level 101, behind 100 seqs and so many dos that it is the 401st or 400th.
        self.assert_limit(("seq", (("do", "a"),) * 300 + (chain("seq", 99, None),)), 400)
        self.assert_limit(("seq", (("do", "a"),) * 299 + (chain("seq", 99, None),)), 100)

    def test_statements_come_before_blocks(self):
        # None stands in 26 blocks, behind a seq, 26 finals, their bodies and so many dos.
        self.assert_limit(("seq", (("do", "a"),) * 347 + (chain("block", 26, None),)), 400)
        self.assert_limit(("seq", (("do", "a"),) * 346 + (chain("block", 26, None),)), 25)

    def test_levels_and_blocks(self):
        # The body of the last final is on the same level as its block, and comes before it.
        self.assert_limit(chain("seq", 73, chain("block", 26, None)), 25)
        self.assert_limit(chain("seq", 74, chain("block", 26, None)), 100)

    def test_100_levels_of_all_kinds(self):
        kinds = ["while", "if", "seq", "try", "body", "other"]
        statement = ("break", 1)
        for level in range(93):
            statement = chain(kinds[level % 6], 1, statement)
        statement = chain("block", 5, ("while", "w", statement))
        code = Code(statement)
        number, levels = 0, 1
        deepest = [at for at in range(len(code)) if code[at] == ("break", 1)]
        self.assertEqual(len(deepest), 1)
        number = deepest[0]
        while code.parent(number) is not None:
            number, levels = code.parent(number), levels + 1
        self.assertEqual(levels, 100)
        self.assertEqual(len(code.layers(deepest[0])), 5)
        self.assertTrue(code == Code(statement))

    def test_shared_tuples_end_at_the_limit(self):
        statement = ("do", "a")
        for _ in range(90):
            statement = ("seq", (statement, statement))
        self.assert_limit(statement, 400)


if __name__ == "__main__":
    unittest.main()
