"""Points 2, 5, 6, 7, 8 and 9: the numbers, places and layers of codes, and which are equal."""

import copy
import inspect
import unittest

from finallycopies.code import Code
from finallycopies.errors import InvalidNumber
from samples import MIXED, NO_NUMBERS, WHILE, Anything, all_of_size, chain, flat

def parts_of(statement):
    if statement[0] == "seq":
        return list(statement[1])
    return [item for item in statement[1:] if isinstance(item, tuple)]


def walk(statement, number=0, parent=None, layers=()):
    """The rows (statement, number, parent, numbers of parts, layers) in preorder, by recursion."""
    rows = []
    numbers = []
    following = number + 1
    for index, part in enumerate(parts_of(statement)):
        inside = layers
        if statement[0] == "final" and index == 1:
            inside = layers + (number,)
        numbers.append(following)
        found = walk(part, following, number, inside)
        rows.extend(found)
        following += len(found)
    return [(statement, number, parent, numbers, list(layers))] + rows


def fresh(statement):
    """An equal tuple that shares no tuple with the given one."""
    return tuple([fresh(item) if isinstance(item, tuple) else item for item in list(statement)])


class Examples(unittest.TestCase):
    def test_e01(self):
        c = Code(WHILE)
        found = [len(c), c.kind(1), c.parts(1), c.parent(0), c.parent(5), c[4]]
        self.assertEqual(found, [6, "final", [2, 5], None, 1, ("break", 1)])

    def test_e02(self):
        c = Code(WHILE)
        found = [c.places(), c.entry(1), c.layers(5), c.layers(1), c.layers(2)]
        self.assertEqual(found, [[0, 1, 2, 3, 4, 5], 2, [1], [1], []])

    def test_the_numbers_of_point_7(self):
        c = Code(WHILE)
        kinds = [c.kind(number) for number in range(6)]
        self.assertEqual(kinds, ["while", "final", "if", "do", "break", "do"])
        self.assertEqual([c[3], c[5]], [("do", "x"), ("do", "y")])


class Interface(unittest.TestCase):
    def test_methods_stand_in_the_class_itself(self):
        for name in ("__len__", "__getitem__", "__eq__", "kind", "parent", "parts", "places", "entry", "layers"):
            self.assertIn(name, vars(Code))
        self.assertEqual(Code.__module__, "finallycopies.code")

    def test_names_of_arguments(self):
        wanted = {"kind": "number", "parent": "number", "parts": "number", "entry": "number", "layers": "place"}
        for method, argument in wanted.items():
            names = list(inspect.signature(getattr(Code, method)).parameters)
            self.assertEqual(names, ["self", argument])

    def test_arguments_by_name(self):
        c = Code(statement=WHILE)
        self.assertEqual(c, Code(WHILE))
        self.assertEqual(c.kind(number=1), "final")
        self.assertEqual(c.parent(number=5), 1)
        self.assertEqual(c.parts(number=1), [2, 5])
        self.assertEqual(c.entry(number=1), 2)
        self.assertEqual(c.layers(place=5), [1])

    def test_a_code_is_not_iterated_over(self):
        self.assertRaises(TypeError, list, Code(WHILE))


class Numbers(unittest.TestCase):
    def check(self, statement):
        code = Code(statement)
        rows = walk(statement)
        self.assertEqual(len(code), len(rows))
        for found, number, parent, parts, _ in rows:
            self.assertEqual(code[number], found)
            self.assertEqual(code.kind(number), found[0])
            self.assertEqual(code.parent(number), parent)
            self.assertEqual(code.parts(number), parts)

    def test_single_statements(self):
        for statement in (("do", "a"), ("call", "a"), ("return",), ("raise",)):
            code = Code(statement)
            self.assertEqual([len(code), code[0], code.kind(0)], [1, statement, statement[0]])
            self.assertEqual([code.parent(0), code.parts(0)], [None, []])

    def test_preorder(self):
        self.check(WHILE)
        self.check(MIXED)
        for size in range(1, 5):
            for statement in all_of_size(size, 0):
                self.check(statement)

    def test_preorder_of_large_ones(self):
        self.check(flat(400))
        self.check(("seq", (flat(200), chain("while", 95, MIXED[1][1][2]))))

    def test_parts_of_each_kind(self):
        self.assertEqual(Code(MIXED).parts(0), [1, 2, 11])
        code = Code(MIXED[1][1])
        found = [(code.kind(number), code.parts(number)) for number in range(9)]
        wanted = [("while", [1]), ("while", [2]), ("final", [3, 6]), ("try", [4, 5]), ("call", [])]
        wanted += [("continue", []), ("final", [7, 8]), ("raise", []), ("break", [])]
        self.assertEqual(found, wanted)

    def test_the_next_part_of_the_statement_around(self):
        code = Code(MIXED)
        for number in range(len(code)):
            parts = code.parts(number)
            self.assertEqual([code.sibling(part) for part in parts], (parts + [None])[1 : len(parts) + 1])
        self.assertIsNone(code.sibling(0))

    def test_no_numbers(self):
        code = Code(WHILE)
        for value in NO_NUMBERS + (len(code), len(code) + 1):
            for asked in (code.kind, code.parent, code.parts, code.entry, code.layers, code.sibling, code.__getitem__):
                with self.subTest(value=value, asked=asked):
                    with self.assertRaises(InvalidNumber) as caught:
                        asked(value)
                    self.assertIs(caught.exception.number, value)

    def test_no_numbers_in_brackets(self):
        code = Code(("do", "a"))
        self.assertEqual(code[0], ("do", "a"))
        for value in NO_NUMBERS + (1,):
            with self.subTest(value=value):
                with self.assertRaises(InvalidNumber) as caught:
                    code[value]
                self.assertIs(caught.exception.number, value)


class Places(unittest.TestCase):
    def test_all_but_seq_and_try(self):
        kinds = [row[0][0] for row in walk(MIXED)]
        wanted = [number for number, kind in enumerate(kinds) if kind not in ("seq", "try")]
        self.assertEqual(Code(MIXED).places(), wanted)
        self.assertEqual(set(kinds) - {kinds[number] for number in wanted}, {"seq", "try"})

    def test_small_ones(self):
        self.assertEqual(Code(("seq", (("do", "a"), ("return",)))).places(), [1, 2])
        self.assertEqual(Code(("try", ("call", "a"), ("raise",))).places(), [1, 2])
        self.assertEqual(Code(("final", ("call", "a"), ("raise",))).places(), [0, 1, 2])
        self.assertEqual(Code(("return",)).places(), [0])

    def test_entry_is_the_statement_itself(self):
        code = Code(MIXED)
        for number in range(len(code)):
            if code.kind(number) not in ("seq", "try", "final"):
                self.assertEqual(code.entry(number), number)

    def test_entry_goes_down_to_first_parts(self):
        self.assertEqual(Code(("seq", (("seq", (("do", "a"),)), ("do", "b")))).entry(0), 2)
        self.assertEqual(Code(("try", ("final", ("do", "a"), ("do", "b")), ("do", "c"))).entry(0), 2)
        code = Code(("final", ("do", "a"), ("seq", (("try", ("if", "b", ("do", "c"), ("do", "d")), ("raise",)),))))
        self.assertEqual([code.entry(number) for number in range(8)], [1, 1, 4, 4, 4, 5, 6, 7])
        self.assertEqual(Code(("while", "a", ("seq", (("break", 1),)))).entry(0), 0)

    def test_entry_of_what_is_100_levels_deep(self):
        for kind in ("seq", "try", "body"):
            self.assertEqual(Code(chain(kind, 99, ("do", "a"))).entry(0), 99)


class Layers(unittest.TestCase):
    def check(self, statement):
        code = Code(statement)
        for found, number, _, _, layers in walk(statement):
            if found[0] == "final":
                self.assertEqual(code.layers(number), layers + [number])
            elif found[0] not in ("seq", "try"):
                self.assertEqual(code.layers(number), layers)

    def test_by_recursion(self):
        self.check(WHILE)
        self.check(MIXED)
        for size in range(3, 6):
            for statement in all_of_size(size, 0):
                if "final" in repr(statement):
                    self.check(statement)

    def test_a_final_is_no_layer_of_its_body(self):
        code = Code(("final", ("final", ("do", "a"), ("do", "b")), ("final", ("do", "c"), ("do", "d"))))
        found = [code.layers(number) for number in range(7)]
        self.assertEqual(found, [[0], [1], [], [1], [0, 4], [0], [0, 4]])

    def test_the_outermost_first(self):
        code = Code(chain("block", 25, ("do", "a")))
        deepest = len(code) - 1
        self.assertEqual(code.layers(deepest), list(range(0, 50, 2)))
        self.assertEqual(code.layers(48), list(range(0, 50, 2)))
        self.assertEqual(code.layers(49), list(range(0, 48, 2)))

    def test_layers_through_all_kinds(self):
        inner = ("try", ("do", "b"), ("seq", (("if", "c", ("do", "d"), ("while", "e", ("do", "f"))),)))
        code = Code(("final", ("do", "a"), inner))
        self.assertEqual([code.layers(number) for number in (3, 5, 6, 7, 8)], [[0]] * 5)

    def test_no_places(self):
        code = Code(("seq", (("try", ("do", "a"), ("final", ("do", "b"), ("seq", (("do", "c"),)))),)))
        self.assertEqual(code.places(), [2, 3, 4, 6])
        for number in (0, 1, 5):
            with self.assertRaises(InvalidNumber) as caught:
                code.layers(number)
            self.assertEqual(caught.exception.number, number)


class Equality(unittest.TestCase):
    def test_equal_tuples(self):
        for statement in (WHILE, MIXED, ("return",), flat(400), chain("block", 25, ("do", "a"))):
            self.assertTrue(Code(statement) == Code(fresh(statement)))
            self.assertFalse(Code(statement) != Code(fresh(statement)))

    def test_exactly_the_equal_tuples(self):
        statements = all_of_size(1, 0) + all_of_size(2, 0) + all_of_size(3, 0)
        codes = [Code(statement) for statement in statements]
        for one, code in zip(statements, codes):
            for other, second in zip(statements, codes):
                self.assertEqual(code == second, one == other)
                self.assertEqual(code != second, one != other)

    def test_one_difference(self):
        jumps = ("while", "a", ("while", "b", ("break", 1)))
        pairs = [
            (("do", "a"), ("do", "b")),
            (("do", "a"), ("do", "aa")),
            (("do", "a"), ("call", "a")),
            (jumps, ("while", "a", ("while", "b", ("break", 2)))),
            (jumps, ("while", "a", ("while", "b", ("continue", 1)))),
            (("seq", (("do", "a"), ("do", "b"))), ("seq", (("do", "b"), ("do", "a")))),
            (("if", "a", ("do", "b"), ("do", "c")), ("if", "a", ("do", "c"), ("do", "b"))),
            (("final", ("do", "b"), ("do", "c")), ("final", ("do", "c"), ("do", "b"))),
            (("try", ("do", "b"), ("do", "c")), ("final", ("do", "b"), ("do", "c"))),
            (("do", "a"), ("seq", (("do", "a"),))),
            (("seq", (("do", "a"),)), ("seq", (("do", "a"), ("do", "a")))),
            (
                ("seq", (("seq", (("do", "a"), ("do", "b"))), ("do", "c"))),
                ("seq", (("seq", (("do", "a"),)), ("do", "b"), ("do", "c"))),
            ),
        ]
        for one, other in pairs:
            with self.subTest(one=one, other=other):
                self.assertFalse(Code(one) == Code(other))
                self.assertTrue(Code(one) != Code(other))

    def test_the_deepest_difference(self):
        one = Code(chain("other", 99, ("do", "a")))
        self.assertFalse(one == Code(chain("other", 99, ("do", "b"))))
        self.assertTrue(one == Code(chain("other", 99, ("do", "a"))))

    def test_equal_to_nothing_else(self):
        code = Code(("do", "a"))
        others = [("do", "a"), [("do", "a")], "do a", 0, 1, None, True, [], {}, object(), Code, Anything()]
        for other in others:
            with self.subTest(other=other):
                self.assertIs(code == other, False)
                self.assertIs(code != other, True)


class NewLists(unittest.TestCase):
    def test_changing_a_result_changes_no_later_one(self):
        code = Code(MIXED)
        asked = [code.places]
        for number in range(len(code)):
            asked.append(lambda number=number: code.parts(number))
        for place in code.places():
            asked.append(lambda place=place: code.layers(place))
        before = [copy.copy(ask()) for ask in asked]
        for ask in asked:
            found = ask()
            found.append("more")
            found.insert(0, "less")
        self.assertEqual([ask() for ask in asked], before)
        for ask in asked:
            self.assertIsNot(ask(), ask())

    def test_layers_of_one_place_are_not_those_of_another(self):
        code = Code(("final", ("do", "a"), ("seq", (("do", "b"), ("do", "c")))))
        code.layers(3).append(9)
        self.assertEqual([code.layers(3), code.layers(4), code.layers(0)], [[0], [0], [0]])

    def test_the_argument_is_not_changed(self):
        statement = fresh(MIXED)
        Code(statement).parts(0).clear()
        self.assertEqual(statement, MIXED)


if __name__ == "__main__":
    unittest.main()
