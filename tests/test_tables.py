"""Points 1, 2, 3, 24, 25 and 26: tables of jumps."""

import copy
import inspect
import itertools
import random
import unittest

import reference
from finallycopies.code import Code
from finallycopies.counts import total
from finallycopies.errors import InvalidTable, LimitExceeded
from finallycopies.lowered import Lowered
from finallycopies.tables import check_table, merged, table
from samples import DROPPING, MIXED, WHILE, Anything, all_of_size, flat, random_statements
from searching import FOREVER, code_run, first_difference, one_row_for_each_place, pairs_before_difference, table_run
from towers import THREE, breaking, tower

# The table of the example c.
ROWS = [(0, "end", 1), (2, 2, 3), (3, 4), (4, 5), (5, 6), (5, 7), (1, 0), (1, "end")]
# The table of the example e17, in which both copies of the finally block are one.
ONE_COPY = [(0, "end", 1), (2, 2, 3), (3, 4), (4, 4), (5, 5), (1, 0)]
ENDS = ["end", "return", "raise"]
SAMPLES = [WHILE, MIXED, DROPPING, tower(2, THREE), breaking(2)] + random_statements(42, 60, range(5, 16), 6)
NO_ROWS = (None, True, 0, 1, "end", "", b"", (), [], {}, [0, "end", 1], (0,), (0, "end"), (0, "end", 1, 1))
NO_ROWS += ((2, 2), (3, 4, 4), (3,), (5, 0, 0), (1, "end", "end"), (6, 1), (-1, 1), (True, 1, 1), (False, 1, 1))
NO_ROWS += ((None, 1), ("0", 1, 1), ([], 1), ((0,), 1, 1), ({}, 1), (10**39, 1), (-(10**39), 1), (0, 8, 1), (0, 1, 8))
NO_ROWS += ((3, -1), (3, True), (3, False), (3, None), (3, "wait"), (3, ""), (3, "END"), (3, "0"), (3, []), (3, {0}))
NO_ROWS += ((3, (4,)), (3, 10**39), (3, b"end"), (0, "end", True), (0, [], 1), (0, 1, "normal"), (3, ("end",)))
NO_ROWS += ((3, Anything()), (Anything(), 1), Anything(), object(), ("end", 1), (0, "end", "ended"))
NO_TABLES = (None, True, 0, 1, "", "end", b"", (), tuple(ROWS), {}, {0: ROWS[0]}, set(), object(), Anything(), range(1))


def late(front, count):
    """A code with four copies of a long block; where they are one row each, this shows only behind it."""
    choice = ("if", "c", ("return",), ("do", "x"))
    body = ("if", "a", ("if", "b", ("break", 1), ("break", 2)), choice)
    block = ("seq", (("do", "d"),) * count + (("if", "q", ("do", "e"), ("do", "f")),))
    loop = ("while", "w", ("while", "v", ("final", body, block)))
    return ("seq", (("do", "g"),) * front + (loop,))


def order_of(rows):
    """The rows but the first one in the order in which they first occur as items, row by row."""
    found = []
    for row in rows:
        for item in row[1:]:
            if not isinstance(item, str) and item != 0 and item not in found:
                found.append(item)
    return found


def shuffled(chance, rows, extra):
    """The same table with further copies of rows and in another order; the first row stays there."""
    rows = list(rows) + [rows[chance.randrange(len(rows))] for _ in range(extra)]
    alike = {}
    for at, row in enumerate(rows):
        alike.setdefault(row, []).append(at)
    choices = [alike[row] for row in rows]
    rest = list(range(1, len(rows)))
    chance.shuffle(rest)
    order = [0] + rest
    made = []
    for at in order:
        items = [item if isinstance(item, str) else order.index(chance.choice(choices[item])) for item in rows[at][1:]]
        made.append((rows[at][0], *items))
    return made


def changed(chance, code, rows):
    """The table with one change; it stays a table."""
    rows = list(rows)
    at = chance.randrange(len(rows))
    row = list(rows[at])
    what = chance.randrange(4)
    if what == 0:
        places = [place for place in code.places() if (code.kind(place) in reference.ASKING) == (len(row) == 3)]
        row[0] = chance.choice(places)
    elif what == 1:
        row[chance.randrange(1, len(row))] = chance.choice(ENDS)
    elif what == 2:
        row[chance.randrange(1, len(row))] = chance.randrange(len(rows))
    else:
        other = chance.randrange(len(rows))
        rows[at], rows[other] = rows[other], rows[at]
        return rows
    rows[at] = tuple(row)
    return rows


class Examples(unittest.TestCase):
    def test_e16(self):
        self.assertEqual(table(Code(WHILE)), ROWS)

    def test_e17(self):
        self.assertEqual(check_table(Code(WHILE), ONE_COPY), [1, 1])


class Interface(unittest.TestCase):
    def test_functions_stand_in_the_file(self):
        for made, names in ((table, ["code"]), (check_table, ["code", "rows"]), (merged, ["code", "rows"])):
            self.assertEqual(made.__module__, "finallycopies.tables")
            self.assertEqual(list(inspect.signature(made).parameters), names)

    def test_arguments_by_name(self):
        c = Code(WHILE)
        self.assertEqual(table(code=c), ROWS)
        self.assertEqual(check_table(rows=ONE_COPY, code=c), [1, 1])
        self.assertEqual(merged(rows=ROWS, code=c), ROWS)

    def test_kinds_of_values(self):
        for found in (table(Code(WHILE)), merged(Code(WHILE), ROWS)):
            self.assertIsInstance(found, list)
            for row in found:
                self.assertIs(row.__class__, tuple)
                for item in row:
                    self.assertIn(item.__class__, (int, str))
        self.assertIsInstance(check_table(Code(WHILE), ONE_COPY), list)
        self.assertIs(check_table(Code(WHILE), ROWS), None)


class Table(unittest.TestCase):
    def check(self, statement):
        code = Code(statement)
        found = table(code)
        self.assertEqual(len(found), total(code))
        self.assertEqual(order_of(found), list(range(1, len(found))), statement)
        for answers in reference.lists_up_to(7):
            self.assertEqual(table_run(found, answers), code_run(statement, answers), statement)

    def test_along_all_answers(self):
        for statement in SAMPLES:
            self.check(statement)

    def test_small_codes(self):
        for statement in all_of_size(3, 0) + all_of_size(4, 0)[::3]:
            self.check(statement)

    def test_one_statement(self):
        self.assertEqual(table(Code(("do", "a"))), [(0, "end")])
        self.assertEqual(table(Code(("return",))), [(0, "return")])
        self.assertEqual(table(Code(("call", "a"))), [(0, "end", "raise")])
        self.assertEqual(table(Code(("while", "a", ("do", "b")))), [(0, "end", 1), (1, 0)])

    def test_two_hundred_addresses(self):
        self.assertEqual(table(Code(flat(201)))[198:], [(199, 199), (200, "end")])
        with self.assertRaises(LimitExceeded) as caught:
            table(Code(flat(202)))
        self.assertEqual(caught.exception.limit, 200)

    def test_two_hundred_addresses_with_copies(self):
        # A call, and two addresses for each place of the block and for its end.
        for count, last in ((98, ("do", "z")), (99, ("do", "z"))):
            code = Code(("seq", (("do", "y"), ("final", ("call", "a"), flat(count + 1, last)))))
            self.assertEqual(total(code), 2 + 2 * count + 2)
            if count == 98:
                self.assertEqual(len(table(code)), 200)
                continue
            with self.assertRaises(LimitExceeded) as caught:
                table(code)
            self.assertEqual(caught.exception.limit, 200)

    def test_very_many_addresses(self):
        for statement in (tower(25, THREE), breaking(24)):
            with self.assertRaises(LimitExceeded) as caught:
                table(Code(statement))
            self.assertEqual(caught.exception.limit, 200)


class Check(unittest.TestCase):
    def compare(self, statement, rows):
        """Compare with a search; tell the result."""
        found = check_table(Code(statement), rows)
        longest = 6 if found is None else len(found)
        if longest <= 10:
            self.assertEqual(first_difference(statement, rows, longest), found, (statement, rows))
        return found

    def test_right_tables(self):
        chance = random.Random(7)
        for statement in SAMPLES:
            code = Code(statement)
            rows = table(code)
            self.assertIs(check_table(code, rows), None)
            for extra in (0, 1, 5, 40):
                self.assertIs(check_table(code, shuffled(chance, rows, extra)), None, statement)
                self.assertIs(check_table(code, rows + [rows[0]] * extra), None)

    def test_right_tables_with_rows_that_are_never_come_to(self):
        c = Code(WHILE)
        self.assertIs(check_table(c, ROWS + [(4, 8), (0, 9, 9), (3, "raise")]), None)
        z = Code(("seq", (("return",), ("do", "a"))))
        self.assertIs(check_table(z, [(1, "return"), (2, "end")]), None)

    def test_two_hundred_rows(self):
        c = Code(WHILE)
        self.assertIs(check_table(c, ROWS * 25), None)
        self.assertIs(check_table(Code(flat(201)), table(Code(flat(201)))), None)

    def test_tables_with_a_change(self):
        chance = random.Random(8)
        wrong = 0
        for statement in SAMPLES:
            code = Code(statement)
            for _ in range(6):
                rows = shuffled(chance, table(code), chance.randrange(4))
                rows = changed(chance, code, rows)
                wrong += self.compare(statement, rows) is not None
                wrong += self.compare(statement, changed(chance, code, rows)) is not None
        self.assertGreater(wrong, 400)

    def test_each_change_of_a_small_table(self):
        for at, row in enumerate(ROWS):
            for index in range(1, len(row)):
                for item in ENDS + list(range(len(ROWS))):
                    rows = list(ROWS)
                    rows[at] = row[:index] + (item,) + row[index + 1 :]
                    found = self.compare(WHILE, rows)
                    self.assertEqual(found is None, item == row[index])
            for place in (0, 2) if len(row) == 3 else (1, 3, 4, 5):
                rows = list(ROWS)
                rows[at] = (place,) + row[1:]
                self.assertEqual(self.compare(WHILE, rows) is None, place == row[0])

    def test_one_row_for_each_place(self):
        for statement in SAMPLES:
            rows = one_row_for_each_place(statement)
            found = self.compare(statement, rows)
            self.assertEqual(found is None, total(Code(statement)) == len(rows))

    def test_the_first_of_equally_short_lists(self):
        # Wrong behind both answers, and behind the second one only.
        code = Code(("seq", (("call", "a"), ("call", "b"))))
        self.assertEqual(table(code), [(1, 1, "raise"), (2, "end", "raise")])
        self.assertEqual(check_table(code, [(1, 1, "raise"), (2, "raise", "end")]), [0, 0])
        self.assertEqual(check_table(code, [(1, 1, "raise"), (2, "end", "return")]), [0, 1])
        self.assertEqual(check_table(code, [(1, 1, "end"), (2, "raise", "end")]), [1])
        self.assertEqual(check_table(code, [(1, "raise", 1), (2, "end", "raise")]), [0])

    def test_differences_without_an_answer(self):
        c = Code(WHILE)
        self.assertEqual(check_table(c, [(2, 0, 0)]), [])
        self.assertEqual(check_table(c, [(3, "end")]), [])
        self.assertEqual(check_table(Code(("do", "a")), [(0, "raise")]), [])
        self.assertEqual(check_table(Code(("seq", (("do", "a"), ("call", "b")))), [(1, 1), (1, "end")]), [])
        # The places that are done are equal, but one run waits at another place.
        code = Code(("seq", (("if", "a", ("do", "b"), ("do", "c")), ("if", "d", ("do", "e"), ("do", "f")))))
        rows = table(code)
        self.assertEqual([row[0] for row in rows], [1, 2, 3, 4, 5, 6])
        rows[3] = (1, 4, 5)
        self.assertEqual(check_table(code, rows), [0])

    def test_rings_that_never_ask(self):
        statement = ("seq", (("do", "a"), ("do", "b"), ("call", "c"), ("do", "d")))
        self.assertEqual(table(Code(statement)), [(1, 1), (2, 2), (3, 3, "raise"), (4, "end")])
        for rows, wanted in (
            ([(1, 0)], []),
            ([(1, 1), (2, 0)], []),
            ([(1, 1), (2, 1)], []),
            ([(1, 1), (2, 2), (3, 3, "raise"), (4, 3)], [0]),
            ([(1, 1), (2, 2), (3, 3, 4), (4, "end"), (4, 4)], [1]),
            ([(1, 1), (2, 2), (3, "end", 0), (4, "end")], [0]),
        ):
            self.assertEqual(self.compare(statement, rows), wanted)
        self.assertEqual(table_run([(1, 1), (2, 0)], [])[1], FOREVER)

    def test_exactly_three_hundred_pairs(self):
        # Each further do in front is one pair more.
        for front, count, pairs in ((2, 70, 300), (3, 70, 301), (4, 70, 302), (1, 70, 299), (7, 69, 301)):
            statement = late(front, count)
            rows = one_row_for_each_place(statement)
            answers, met = pairs_before_difference(statement, rows)
            self.assertEqual([answers, met], [[1, 1, 0, 1, 0], pairs])
            if pairs <= 300:
                self.assertEqual(check_table(Code(statement), rows), answers)
                continue
            with self.assertRaises(LimitExceeded) as caught:
                check_table(Code(statement), rows)
            self.assertEqual(caught.exception.limit, 300)

    def test_codes_with_very_many_addresses(self):
        statement = tower(25, ("call", "x"))
        self.assertEqual(check_table(Code(statement), [(1, "end", "raise")]), [0])
        rows = one_row_for_each_place(statement)
        # All 25 calls are answered by 0; behind the first end of a block there is the next one.
        with self.assertRaises(LimitExceeded) as caught:
            check_table(Code(statement), rows)
        self.assertEqual(caught.exception.limit, 300)
        statement = tower(3, ("call", "x"))
        self.assertEqual(len(self.compare(statement, one_row_for_each_place(statement))), 3)


class Merged(unittest.TestCase):
    def signatures(self, rows, most):
        """For each row what its runs do, along all lists with so many answers."""
        lists = list(itertools.product([0, 1], repeat=most))
        return [repr([table_run(rows, answers, at, 40) for answers in lists]) for at in range(len(rows))]

    def compare(self, statement, rows):
        code = Code(statement)
        before = copy.deepcopy(rows)
        found = merged(code, rows)
        self.assertEqual(rows, before)
        # Two rows that differ do so with at most one answer for each row that asks.
        most = min(7, len([row for row in rows if len(row) == 3]) + 1)
        told, wanted = self.signatures(found, most), self.signatures(rows, most)
        self.assertEqual(len(set(told)), len(found), (statement, rows))
        self.assertEqual(told[0], wanted[0])
        todo = [0]
        for at in todo:
            todo.extend([item for item in rows[at][1:] if not isinstance(item, str) and item not in todo])
        self.assertEqual(len(found), len({wanted[at] for at in todo}), (statement, rows))
        self.assertEqual(order_of(found), list(range(1, len(found))))
        self.assertEqual(merged(code, found), found)
        return found

    def test_right_tables(self):
        chance = random.Random(9)
        for statement in SAMPLES:
            code = Code(statement)
            rows = table(code)
            self.assertEqual(merged(code, rows), rows)
            for extra in (0, 1, 5, 40):
                self.assertEqual(merged(code, shuffled(chance, rows, extra)), rows, statement)
        self.assertEqual(merged(Code(WHILE), ROWS * 25), ROWS)

    def test_wrong_tables(self):
        chance = random.Random(10)
        for statement in [WHILE, DROPPING] + random_statements(43, 40, range(5, 9), 3):
            code = Code(statement)
            for _ in range(5):
                rows = shuffled(chance, table(code), chance.randrange(4))
                rows = changed(chance, code, changed(chance, code, rows))
                self.compare(statement, rows)

    def test_random_tables(self):
        chance = random.Random(11)
        code = Code(("seq", (("call", "a"), ("do", "b"), ("do", "c"))))
        for _ in range(400):
            size = chance.randint(1, 6)
            items = list(range(size)) * 2 + ["end", "return"]
            rows = []
            for _ in range(size):
                place = chance.choice([1, 2, 2, 3])
                rows.append((place, *[chance.choice(items) for _ in range(2 if place == 1 else 1)]))
            self.compare(("seq", (("call", "a"), ("do", "b"), ("do", "c"))), rows)
        self.assertEqual(merged(code, [(2, 0)]), [(2, 0)])

    def test_rings_that_never_ask(self):
        code = Code(("seq", (("call", "a"), ("do", "b"), ("do", "c"))))
        self.assertEqual(merged(code, [(2, 1), (2, 2), (2, 0)]), [(2, 0)])
        self.assertEqual(merged(code, [(2, 1), (3, 2), (2, 3), (3, 0)]), [(2, 1), (3, 0)])
        self.assertEqual(merged(code, [(2, 1), (3, 2), (2, 3), (3, 2)]), [(2, 1), (3, 0)])
        self.assertEqual(merged(code, [(1, 1, 2), (2, 1), (2, 3), (2, 2)]), [(1, 1, 1), (2, 1)])
        self.assertEqual(merged(code, [(1, 1, 2), (2, 1), (2, "end")]), [(1, 1, 2), (2, 1), (2, "end")])
        self.assertEqual(merged(code, [(1, 0, 1), (1, 1, 0)]), [(1, 0, 0)])

    def test_rows_that_are_never_come_to(self):
        code = Code(("seq", (("call", "a"), ("do", "b"), ("do", "c"))))
        self.assertEqual(merged(code, [(1, "end", 3), (2, "end"), (3, 1), (3, "raise")]), [(1, "end", 1), (3, "raise")])
        self.assertEqual(merged(code, [(2, 2), (3, "end"), (3, "end")]), [(2, 1), (3, "end")])

    def test_the_order_of_the_items(self):
        code = Code(("seq", (("call", "a"), ("do", "b"), ("do", "c"))))
        rows = [(1, 3, 2), (3, "end"), (2, 1), (2, "raise")]
        self.assertEqual(merged(code, rows), [(1, 1, 2), (2, "raise"), (2, 3), (3, "end")])

    def test_ends_are_told_apart(self):
        code = Code(("seq", (("call", "a"), ("do", "b"), ("do", "c"))))
        rows = [(1, 1, 2), (2, "end"), (2, "return")]
        self.assertEqual(merged(code, rows), rows)
        rows = [(1, 1, 2), (1, "end", "raise"), (1, "raise", "end")]
        self.assertEqual(merged(code, rows), rows)

    def test_long_tables(self):
        code = Code(flat(201))
        rows = table(code)
        self.assertEqual(merged(code, rows), rows)
        code = Code(("seq", (("do", "a"),)))
        rows = [(1, at + 1) for at in range(199)] + [(1, "end")]
        self.assertEqual(merged(code, rows), rows)
        rows = [(1, at + 1) for at in range(199)] + [(1, 0)]
        self.assertEqual(merged(code, rows), [(1, 0)])


class Errors(unittest.TestCase):
    def refuse(self, code, rows, at):
        for asked in (check_table, merged):
            with self.assertRaises(InvalidTable) as caught:
                asked(code, rows)
            self.assertEqual(caught.exception.at, at, rows)

    def test_what_is_no_list_of_rows(self):
        for value in NO_TABLES + ([], ROWS * 25 + [ROWS[0]], [None] * 201, [(0, "end", 1)] * 5000):
            self.refuse(Code(WHILE), value, -1)

    def test_what_is_no_row(self):
        c = Code(WHILE)
        for row in NO_ROWS:
            with self.subTest(row=row):
                self.refuse(c, [row] + ROWS[1:], 0)
                self.refuse(c, ROWS[:7] + [row], 7)
                self.refuse(c, ROWS[:3] + [row, row] + ROWS[5:], 3)

    def test_the_first_wrong_row(self):
        c = Code(WHILE)
        self.refuse(c, ROWS[:2] + [(3, 8), None] + ROWS[4:], 2)
        self.refuse(c, [(0, "end", 1)], 0)
        self.refuse(c, [(0, "end", 0), (3, 1), (3, 3)], 2)

    def test_places_that_are_none(self):
        code = Code(("seq", (("try", ("call", "a"), ("do", "b")), ("final", ("do", "c"), ("do", "d")))))
        for place in (0, 1, 7):
            self.refuse(code, [(place, 0)], 0)
            self.refuse(code, [(place, 0, 0)], 0)
        for place in (3, 4, 5, 6):
            self.assertEqual(merged(code, [(place, 0)]), [(place, 0)])
            self.refuse(code, [(place, 0, 0)], 0)
        self.assertEqual(merged(code, [(2, 0, "raise")]), [(2, 0, "raise")])
        self.refuse(code, [(2, 0)], 0)

    def test_a_wrong_table_comes_before_the_limits(self):
        statement = late(3, 70)
        rows = one_row_for_each_place(statement)
        self.refuse(Code(statement), rows + [None], len(rows))
        self.refuse(Code(tower(25, THREE)), [(0, "end"), 5], 1)

    def test_rows_of_places_that_are_not_reached(self):
        z = Code(("seq", (("return",), ("call", "a"))))
        self.assertEqual(check_table(z, [(2, 0, 0)]), [])
        self.assertEqual(merged(z, [(2, 0, 0)]), [(2, 0, 0)])


class NewResults(unittest.TestCase):
    def test_changing_a_result_changes_no_later_one(self):
        c = Code(WHILE)
        asked = [lambda: table(c), lambda: check_table(c, ONE_COPY)]
        asked += [lambda: merged(c, ROWS), lambda: merged(c, ONE_COPY)]
        before = [list(ask()) for ask in asked]
        for ask in asked:
            ask().insert(0, 7)
        self.assertEqual([ask() for ask in asked], before)

    def test_arguments_are_not_changed(self):
        c = Code(WHILE)
        for rows in (ROWS, ONE_COPY, ROWS * 3):
            passed = list(rows)
            check_table(c, passed)
            found = merged(c, passed)
            self.assertEqual(passed, rows)
            self.assertIsNot(found, passed)
            found.append(7)
            self.assertEqual(passed, rows)

    def test_equal_codes_give_equal_results(self):
        for statement in SAMPLES[:20]:
            self.assertEqual(table(Code(statement)), table(Code(statement)))
            low = Lowered(Code(statement))
            self.assertEqual(low.total(), len(table(Code(statement))))


if __name__ == "__main__":
    unittest.main()
