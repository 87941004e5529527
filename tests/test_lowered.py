"""Points 1, 2, 3, 19, 22 and 23: addresses, what they stand for, and runs by them."""

import inspect
import random
import unittest

import reference
from finallycopies.code import Code
from finallycopies.counts import copies, total
from finallycopies.errors import InvalidAnswers, InvalidNumber
from finallycopies.lowered import Lowered
from finallycopies.routes import behind, needed
from finallycopies.runs import moment, run
from finallycopies.ways import reached
from samples import DROPPING, MIXED, NO_NUMBERS, WHILE, Anything, all_of_size, chain, flat, random_statements
from towers import THREE, breaking, nested, scattered, tower

ASKING = ("call", "if", "while")
METHODS = {
    "code": [],
    "total": [],
    "start": [],
    "place": ["address"],
    "known": ["address"],
    "row": ["address"],
    "trace": ["answers"],
    "address_after": ["answers"],
    "answers_to": ["address"],
}
LARGE = [tower(25, ("call", "x")), tower(25, THREE), breaking(25), breaking(22), scattered(12, 8)]
SAMPLES = [WHILE, MIXED, DROPPING] + random_statements(41, 150, range(5, 22), 8)


def text_of(way):
    return "end" if way == ("normal",) else way[0]


def expected_known(code, pending):
    """The routes behind the layers that count, by the rule: those needed, and those needed behind them."""
    place, ways = pending
    ways = dict(ways)
    layers = set(needed(code, place))
    found = []
    while layers:
        inner = max(layers)
        layers.remove(inner)
        blocks, goal = dict(behind(code, inner))[ways[inner]]
        found.append((inner, (blocks, goal)))
        if goal in code.places():
            layers.update(needed(code, goal))
        for final in blocks:
            layers.update([layer for layer in needed(code, code.entry(code.parts(final)[1])) if layer not in blocks])
    return found


class Examples(unittest.TestCase):
    def test_e15(self):
        low = Lowered(Code(WHILE))
        t = low.trace([1, 1])
        found = [low.total(), low.place(t[0][0]), low.place(t[0][4]), len(t[0]), t[1], t[2], low.address_after([0])]
        self.assertEqual(found, [8, 0, 1, 5, 2, "end", "end"])

    def test_the_example_of_point_23(self):
        low = Lowered(Code(WHILE))
        self.assertEqual([low.place(address) for address in low.trace([1, 1])[0]], [0, 2, 4, 5, 1])


class Interface(unittest.TestCase):
    def test_the_class_stands_in_the_file_with_its_methods(self):
        self.assertEqual(Lowered.__module__, "finallycopies.lowered")
        self.assertEqual(list(inspect.signature(Lowered).parameters), ["code"])
        for name, arguments in METHODS.items():
            self.assertIn(name, vars(Lowered))
            self.assertEqual(list(inspect.signature(vars(Lowered)[name]).parameters), ["self"] + arguments)

    def test_arguments_by_name(self):
        low = Lowered(code=Code(WHILE))
        self.assertEqual([low.place(address=0), low.known(address=0)], [low.place(0), low.known(0)])
        self.assertEqual([low.row(address=0), low.answers_to(address=0)], [low.row(0), low.answers_to(0)])
        self.assertEqual(low.trace(answers=[1]), low.trace([1]))
        self.assertEqual(low.address_after(answers=[1]), low.address_after([1]))

    def test_kinds_of_values(self):
        low = Lowered(Code(WHILE))
        self.assertIsInstance(low.code(), Code)
        self.assertEqual(low.code(), Code(WHILE))
        for value in (low.total(), low.start(), low.place(0), low.address_after([1]), low.trace([1])[1]):
            self.assertIs(value.__class__, int)
        for address in range(low.total()):
            self.assertIsInstance(low.known(address), list)
            self.assertIsInstance(low.row(address), tuple)
            self.assertIsInstance(low.answers_to(address), list)
            for layer, follows in low.known(address):
                self.assertIs(layer.__class__, int)
                self.assertIsInstance(follows, tuple)
                self.assertIsInstance(follows[0], tuple)
        self.assertIsInstance(low.trace([1]), tuple)
        self.assertIsInstance(low.trace([1])[0], list)


class Search(unittest.TestCase):
    """Compared with all moments that runs come to, and with what follows them."""

    def addresses(self, low, statement):
        """The address of each moment: alike moments have the same one, others different ones."""
        found = {}
        waiting = [[]]
        alike = reference.classes(statement)
        node = reference.Node(statement)
        # Each moment at which a run waits is come to, and so is each one between.
        for answers in waiting:
            way, doing = reference.perform(node, answers)
            done, used, end = low.trace(answers)
            self.assertEqual([low.place(address) for address in done], doing.visited)
            self.assertEqual([used, end], [doing.used, "wait" if way is None else text_of(way)])
            after = low.address_after(answers)
            if way is None:
                done = done + [after]
                self.assertEqual(low.place(after), doing.moments[-1][0])
                if doing.moments[-1] not in found:
                    waiting.extend([answers + [0], answers + [1]])
            else:
                self.assertEqual(after, text_of(way))
            self.assertEqual(len(done), len(doing.moments))
            for pending, address in zip(doing.moments, done):
                self.assertEqual(found.setdefault(pending, address), address, (statement, pending))
        self.assertEqual(set(found), set(alike))
        pairs = {(alike[pending], found[pending]) for pending in found}
        self.assertEqual(len(pairs), len(set(alike.values())), statement)
        self.assertEqual(len(pairs), len(set(found.values())), statement)
        return found

    def check(self, statement):
        code = Code(statement)
        low = Lowered(code)
        found = self.addresses(low, statement)
        self.assertEqual(sorted(set(found.values())), list(range(low.total())), statement)
        self.assertEqual(low.total(), total(code))
        after = reference.successors(statement)
        for pending, address in found.items():
            self.assertEqual(low.place(address), pending[0], statement)
            self.assertEqual(low.known(address), expected_known(code, pending), statement)
            items = [after[pending][answer] for answer in sorted(after[pending], key=str)]
            items = [found[item] if item in found else text_of(item) for item in items]
            self.assertEqual(low.row(address), (pending[0], *items), statement)
        for address in range(low.total()):
            answers = low.answers_to(address)
            self.assertLessEqual(len(answers), len(code.places()))
            self.assertIn(address, low.trace(answers)[0] + [low.address_after(answers)], statement)

    def test_small_codes(self):
        for size in range(1, 5):
            for statement in all_of_size(size, 0):
                self.check(statement)

    def test_larger_codes(self):
        for statement in SAMPLES:
            self.check(statement)

    def test_towers(self):
        for count in range(1, 4):
            self.check(tower(count, ("call", "x")))
            self.check(tower(count, THREE))
            self.check(breaking(count))
        self.check(scattered(2, 2))


class Addresses(unittest.TestCase):
    def test_the_start(self):
        for statement in (WHILE, MIXED, DROPPING, tower(3, THREE), ("seq", (("do", "a"),))):
            code = Code(statement)
            low = Lowered(code)
            self.assertEqual(low.place(low.start()), code.entry(0))
            self.assertEqual(low.known(low.start()), [])
            self.assertEqual(low.trace([0] * 9)[0][0], low.start())

    def test_one_statement(self):
        for statement, row in ((("do", "a"), (0, "end")), (("return",), (0, "return")), (("raise",), (0, "raise"))):
            low = Lowered(Code(statement))
            self.assertEqual([low.total(), low.start(), low.place(0), low.row(0)], [1, 0, 0, row])
            self.assertEqual([low.known(0), low.answers_to(0)], [[], []])
            self.assertEqual([low.trace([]), low.address_after([])], [([0], 0, row[1]), row[1]])
        low = Lowered(Code(("call", "a")))
        found = [low.row(0), low.trace([]), low.trace([1, 0])]
        self.assertEqual(found, [(0, "end", "raise"), ([], 0, "wait"), ([0], 1, "raise")])

    def test_what_is_known_behind_routes(self):
        # Behind the raise of 3 there is the handler, and the end of 0 behind it.
        code = Code(("final", ("call", "a"), ("try", ("final", ("call", "b"), ("do", "c")), ("do", "d"))))
        low = Lowered(code)
        address = low.trace([1, 1])[0][2]
        self.assertEqual(low.place(address), 5)
        self.assertEqual(low.known(address), [(3, ((), 6)), (0, ((), "raise"))])
        known = [low.known(address) for address in low.trace([1, 1])[0]]
        self.assertEqual(known[3:], [[(3, ((), 6)), (0, ((), "raise"))], [(0, ((), "raise"))], [(0, ((), "raise"))]])
        self.assertEqual(low.known(low.trace([0, 0])[0][2]), [(3, ((), 0)), (0, ((), "end"))])

    def test_a_layer_behind_which_nothing_is_needed(self):
        # Without a handler the raise out of 2 drops what is pending at 0.
        low = Lowered(Code(("final", ("call", "a"), ("final", ("call", "b"), ("do", "c")))))
        self.assertEqual(low.known(low.trace([1, 1])[0][2]), [(2, ((), "raise"))])
        self.assertEqual(low.trace([0, 1])[0][2:], low.trace([1, 1])[0][2:])
        self.assertEqual(low.known(low.trace([1, 0])[0][2]), [(2, ((), 0)), (0, ((), "raise"))])

    def test_layers_of_blocks_on_a_route(self):
        # Behind both ways of 4 there is the block of 3, which can raise to the handler.
        inner = ("final", ("final", ("call", "b"), ("do", "c")), ("call", "e"))
        low = Lowered(Code(("final", ("call", "a"), ("try", inner, ("do", "f")))))
        known = low.known(low.trace([1, 0])[0][2])
        self.assertEqual(known, [(4, ((3,), 0)), (0, ((), "raise"))])
        known = low.known(low.trace([1, 1])[0][2])
        self.assertEqual(known, [(4, ((3,), 8)), (0, ((), "raise"))])

    def test_what_is_no_address(self):
        for statement in (WHILE, ("do", "a"), tower(25, THREE)):
            low = Lowered(Code(statement))
            large = (low.total(), low.total() + 1, low.total() * 7)
            for value in NO_NUMBERS + large:
                if value.__class__ is int and 0 <= value < low.total():
                    continue
                for asked in (low.place, low.known, low.row, low.answers_to):
                    with self.subTest(value=value, asked=asked):
                        with self.assertRaises(InvalidNumber) as caught:
                            asked(value)
                        self.assertIs(caught.exception.number, value)

    def test_places_that_no_run_comes_to_have_no_address(self):
        code = Code(("seq", (("final", ("call", "a"), ("return",)), ("do", "b"))))
        low = Lowered(code)
        self.assertEqual(sorted([low.place(address) for address in range(low.total())]), reached(code))


class Runs(unittest.TestCase):
    """Compared with the direct runs of the same code."""

    def check(self, code, low, answers):
        direct = run(code, answers)
        addresses, used, end = low.trace(answers)
        self.assertEqual([low.place(address) for address in addresses], direct.visited)
        self.assertEqual([used, end], [direct.used, direct.end])
        after = low.address_after(answers)
        place, pending = moment(code, answers)
        if direct.end == "wait":
            self.assertEqual(low.place(after), place)
            self.assertEqual(low.known(after), expected_known(code, (place, pending)))
        else:
            self.assertEqual(after, place)

    def test_all_short_lists(self):
        for statement in [WHILE, MIXED, DROPPING, breaking(2), tower(2, THREE)]:
            code = Code(statement)
            low = Lowered(code)
            for answers in reference.lists_up_to(7):
                self.check(code, low, answers)

    def test_long_lists(self):
        chance = random.Random(6)
        for statement in [WHILE, MIXED, DROPPING] + LARGE:
            code = Code(statement)
            low = Lowered(code)
            for count in (0, 1, 30, 200, 999, 1000):
                self.check(code, low, [1] * count)
                self.check(code, low, [0] * count)
                self.check(code, low, [chance.randint(0, 1) for _ in range(count)])

    def test_too_few_exactly_enough_and_more(self):
        low = Lowered(Code(WHILE))
        found = [low.trace(answers)[1:] for answers in ([], [1], [1, 1], [1, 1, 0], [0, 1, 1])]
        self.assertEqual(found, [(0, "wait"), (1, "wait"), (2, "end"), (2, "end"), (1, "end")])

    def test_a_thousand_answers(self):
        code = Code(("while", "a", flat(397)))
        addresses, used, end = Lowered(code).trace([1] * 1000)
        self.assertEqual([len(addresses), used, end], [397 * 1000, 1000, "wait"])
        self.assertEqual(Lowered(Code(WHILE)).trace([1, 0] * 500)[1:], (1000, "wait"))

    def test_invalid_answers(self):
        low = Lowered(Code(WHILE))
        values = [(value, -1) for value in (None, True, 0, "", "01", (), (0, 1), {}, {0}, range(2), Anything())]
        values += [([0] * 1001, -1), ([None] * 1001, -1)]
        for item in (2, -1, True, False, None, "0", (), [], {}, 10**39, Anything()):
            values += [([item], 0), ([0, 1, item, item], 2), ([0] * 999 + [item], 999)]
        for value, at in values:
            for asked in (low.trace, low.address_after):
                with self.assertRaises(InvalidAnswers) as caught:
                    asked(value)
                self.assertEqual(caught.exception.at, at)


class Large(unittest.TestCase):
    """Codes with more addresses than could ever be listed."""

    def addresses(self, low, seed):
        chance = random.Random(seed)
        picked = [chance.randrange(low.total()) for _ in range(30)]
        return [0, 1, 2, low.total() - 2, low.total() - 1] + picked

    def test_many_addresses(self):
        for statement in LARGE:
            low = Lowered(Code(statement))
            self.assertEqual(low.total(), total(low.code()))
            self.assertGreater(low.total(), 10**7)
            self.assertEqual(low.place(low.start()), low.code().entry(0))

    def test_answers_to(self):
        for seed, statement in enumerate(LARGE):
            code = Code(statement)
            low = Lowered(code)
            for address in self.addresses(low, seed):
                answers = low.answers_to(address)
                self.assertLessEqual(len(answers), len(code.places()))
                self.assertTrue(all(answer in (0, 1) for answer in answers))
                self.assertIn(address, low.trace(answers)[0] + [low.address_after(answers)])

    def test_rows_and_known(self):
        for seed, statement in enumerate(LARGE):
            code = Code(statement)
            low = Lowered(code)
            for address in self.addresses(low, seed + 100):
                row = low.row(address)
                self.assertEqual(row[0], low.place(address))
                self.assertEqual(len(row), 3 if code.kind(row[0]) in ASKING else 2)
                answers = low.answers_to(address)
                done = low.trace(answers + [0])[0]
                self.assertIn(address, done)
                index = done.index(address)
                follows = (done + [low.address_after(answers + [0])])[index + 1]
                self.assertIn(follows, row[1:])
                layers = [layer for layer, _ in low.known(address)]
                self.assertEqual(layers, sorted(set(layers), reverse=True))
                for layer, follows in low.known(address):
                    self.assertIn(follows, dict(behind(code, layer)).values())

    def test_each_address_of_a_place_stands_for_something_else(self):
        for statement in (tower(5, THREE), breaking(4), scattered(3, 3)):
            code = Code(statement)
            low = Lowered(code)
            known = {}
            for address in range(low.total()):
                known.setdefault(low.place(address), []).append(tuple(low.known(address)))
            self.assertEqual(sorted(known), reached(code))
            for place, each in known.items():
                self.assertEqual(len(each), copies(code, place))
                self.assertEqual(len(set(each)), len(each))

    def test_large_codes(self):
        for kind in ("while", "if", "other", "seq", "try", "body"):
            code = Code(("final", ("call", "a"), chain(kind, 98, ("call", "b"))))
            low = Lowered(code)
            self.assertEqual(low.total(), total(code))
            for address in (0, low.total() // 2, low.total() - 1):
                answers = low.answers_to(address)
                self.assertIn(address, low.trace(answers)[0] + [low.address_after(answers)])
        body = nested([("break", number) for number in range(1, 41)])
        code = Code(chain("while", 40, ("final", body, flat(100))))
        low = Lowered(code)
        self.assertEqual(low.total(), 40 + 79 + 40 * 100)
        known = [low.known(address) for address in range(low.total()) if low.place(address) == 219]
        wanted = [[(40, ((), goal))] for goal in list(range(39)) + ["end"]]
        self.assertEqual(sorted(known, key=str), sorted(wanted, key=str))


class NewResults(unittest.TestCase):
    def test_changing_a_result_changes_no_later_one(self):
        low = Lowered(Code(DROPPING))
        asked = [lambda: low.trace([1, 0])[0]]
        for address in range(low.total()):
            asked.append(lambda address=address: low.known(address))
            asked.append(lambda address=address: low.answers_to(address))
        before = [list(ask()) for ask in asked]
        for ask in asked:
            ask().insert(0, 7)
        self.assertEqual([ask() for ask in asked], before)

    def test_arguments_are_not_changed(self):
        low = Lowered(Code(WHILE))
        answers = [1, 0, 1, 1, 0]
        low.trace(answers)
        low.address_after(answers)
        self.assertEqual(answers, [1, 0, 1, 1, 0])

    def test_equal_codes_have_equal_programs_whatever_was_asked_before(self):
        for statement in SAMPLES[:20] + [tower(25, THREE)]:
            one, other = Lowered(Code(statement)), Lowered(Code(statement))
            one.trace([1, 0, 1, 0, 1])
            for address in range(min(one.total(), 60)):
                self.assertEqual(one.row(address), one.row(address))
            for address in range(min(one.total(), 60) - 1, -1, -1):
                self.assertEqual(one.answers_to(address), other.answers_to(address))
                self.assertEqual(one.known(address), other.known(address))
                self.assertEqual(one.row(address), other.row(address))
            for answers in reference.lists_up_to(4):
                self.assertEqual(one.trace(answers), other.trace(answers))
                self.assertEqual(one.address_after(answers), other.address_after(answers))


if __name__ == "__main__":
    unittest.main()
