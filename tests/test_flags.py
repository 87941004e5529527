"""Points 1, 2, 27 and 28: numbers of addresses with flags."""

import inspect
import itertools
import random
import unittest

from finallycopies import flags as module
from finallycopies.code import Code
from finallycopies.counts import copies, total
from finallycopies.errors import InvalidAnswers, InvalidBound, InvalidFinals, LimitExceeded
from finallycopies.flags import dispatches, fewest_flags, total_with
from finallycopies.routes import behind, needed
from finallycopies.runs import run
from finallycopies.ways import reached
from samples import DROPPING, MIXED, WHILE, Anything, all_of_size, random_statements
from towers import THREE, breaking, scattered, tower

SAMPLES = [WHILE, MIXED, DROPPING, tower(3, THREE), breaking(3)] + random_statements(44, 100, range(5, 20), 9)
NO_LISTS = (None, True, False, 0, 1, "", "1", b"", (), (1,), {}, {1}, set(), object(), Anything(), range(2), iter([]))
NO_FINALS = (None, True, False, "1", "", b"1", (), (1,), [], [1], {}, {1}, object(), Anything(), -1, 0, 2, 5, 6, 10**39)
NO_BOUNDS = (-1, -2, -(10**39), True, False, None, "", "3", b"", (), [], [1], {}, {1}, object(), Anything())


def finals(code):
    return [number for number in range(len(code)) if code.kind(number) == "final"]


class Rule:
    """The numbers N of point 20 with flagged finals, worked out over sets."""

    def __init__(self, code):
        self.code = code
        self.routes = {final: set(dict(behind(code, final)).values()) for final in finals(code)}
        self.reached = reached(code)

    def needs_behind(self, follows):
        blocks, goal = follows
        found = set(needed(self.code, goal)) if isinstance(goal, int) else set()
        for final in blocks:
            found |= set(needed(self.code, self.code.entry(self.code.parts(final)[1])))
        return found - set(blocks)

    def number(self, layers, flagged):
        if not layers:
            return 1
        inner = max(layers)
        others = layers - {inner}
        each = [self.needs_behind(follows) for follows in self.routes[inner]]
        if inner in flagged:
            return self.number(others.union(*each), flagged)
        return sum(self.number(others | behind, flagged) for behind in each)

    def total(self, flagged):
        return sum(self.number(set(needed(self.code, place)), flagged) for place in self.reached)


def some_of(items):
    """All lists of some of the items, with the fewest first, and then the least."""
    return [list(some) for count in range(len(items) + 1) for some in itertools.combinations(items, count)]


class Examples(unittest.TestCase):
    def test_e18(self):
        c = Code(WHILE)
        found = [total_with(c, [1]), dispatches(c, [1], [1, 0, 1, 1])]
        self.assertEqual(found + [fewest_flags(c, most) for most in (8, 6, 5)], [6, 2, [], [1], None])


class Interface(unittest.TestCase):
    def test_functions_stand_in_the_file(self):
        wanted = {"total_with": ["code", "finals"], "fewest_flags": ["code", "most"]}
        wanted["dispatches"] = ["code", "finals", "answers"]
        for name, names in wanted.items():
            made = getattr(module, name)
            self.assertEqual(made.__module__, "finallycopies.flags")
            self.assertEqual(list(inspect.signature(made).parameters), names)

    def test_arguments_by_name(self):
        c = Code(WHILE)
        self.assertEqual(total_with(finals=[1], code=c), 6)
        self.assertEqual(dispatches(answers=[1, 0], finals=[1], code=c), 1)
        self.assertEqual(fewest_flags(most=6, code=c), [1])

    def test_kinds_of_values(self):
        c = Code(WHILE)
        for value in (total_with(c, []), dispatches(c, [1], []), dispatches(c, [], [])):
            self.assertIs(value.__class__, int)
        self.assertIsInstance(fewest_flags(c, 8), list)


class TotalWith(unittest.TestCase):
    def test_small_codes(self):
        for size in (3, 4):
            for statement in all_of_size(size, 0):
                code = Code(statement)
                rule = Rule(code)
                for chosen in some_of(finals(code)):
                    self.assertEqual(total_with(code, chosen), rule.total(chosen), statement)

    def test_larger_codes(self):
        for statement in SAMPLES:
            code = Code(statement)
            rule = Rule(code)
            for chosen in some_of(finals(code))[:40]:
                self.assertEqual(total_with(code, chosen), rule.total(chosen), (statement, chosen))

    def test_without_flags(self):
        for statement in SAMPLES + [tower(25, THREE), breaking(25)]:
            self.assertEqual(total_with(Code(statement), []), total(Code(statement)))

    def test_with_all_finals(self):
        for statement in SAMPLES + [tower(25, THREE), breaking(25), scattered(12, 8)]:
            code = Code(statement)
            self.assertEqual(total_with(code, finals(code)), len(reached(code)), statement)

    def test_with_some_flags(self):
        # Behind the layer 3 there is the handler or the end of 0, which both need the layer 0.
        inner = ("final", ("call", "b"), ("do", "c"))
        code = Code(("final", ("call", "a"), ("try", inner, ("do", "d"))))
        self.assertEqual([copies(code, place) for place in code.places()], [2, 1, 4, 2, 4, 2])
        self.assertEqual(total_with(code, []), 15)
        # With 3 flagged its end and block know only the layer 0.
        self.assertEqual(total_with(code, [3]), 2 + 1 + 2 + 2 + 2 + 2)
        # With 0 flagged they know only the layer 3.
        self.assertEqual(total_with(code, [0]), 1 + 1 + 2 + 1 + 2 + 1)
        self.assertEqual(total_with(code, [0, 3]), 6)

    def test_more_than_without_flags(self):
        # Behind the break 1 there is the end of 5, and behind the break 2 that of 0. Without a flag
        # the end of the inner block stands for 5 with 5 addresses or for 0 with 3, with a flag there
        # for both together with 9; so does the step before it.
        inner = ("while", "v", ("final", ("if", "a", ("break", 1), ("break", 2)), ("do", "z")))
        code = Code(("final", THREE, ("while", "w", ("final", THREE, inner))))
        self.assertEqual([finals(code), code.places()[-1]], [[0, 5, 10], 14])
        self.assertEqual([copies(code, place) for place in (0, 5, 10, 14)], [3, 5, 8, 8])
        self.assertEqual(total_with(code, [10]) - total_with(code, []), 2)
        self.assertEqual(total_with(code, [10]), Rule(code).total([10]))

    def test_flags_again_and_again(self):
        # With all but the outermost final flagged, each place knows at most the outermost one.
        code = Code(tower(25, ("call", "x")))
        self.assertEqual(total_with(code, finals(code)[1:]), len(reached(code)) * 2 - 1)
        # With each second one flagged, only the other ones double what is known.
        for count in (2, 6, 25):
            code = Code(tower(count, ("call", "x")))
            known = [1]
            for layer in range(1, count + 1):
                known.append(known[-1] * (2 if layer % 2 else 1))
            # By layer: the body stands in the block around, the end and the next final in its own;
            # the handler does so, too, and the innermost one is not reached, but z is.
            wanted = sum(known[:-1]) + 2 * sum(known[1:])
            self.assertEqual(total_with(code, finals(code)[1::2]), wanted)

    def test_very_many_addresses(self):
        for statement in (tower(25, THREE), breaking(25), scattered(12, 8)):
            code = Code(statement)
            every = finals(code)
            found = [total_with(code, every[count:]) for count in range(len(every) + 1)]
            self.assertEqual([found[0], found[-1]], [len(reached(code)), total(code)])

    def test_arguments_are_not_changed(self):
        code = Code(tower(3, THREE))
        chosen = finals(code)[1:]
        total_with(code, chosen)
        dispatches(code, chosen, [1, 0])
        self.assertEqual(chosen, finals(code)[1:])


class Dispatches(unittest.TestCase):
    def test_places_of_runs(self):
        chance = random.Random(12)
        for statement in SAMPLES:
            code = Code(statement)
            for _ in range(5):
                answers = [chance.randint(0, 1) for _ in range(chance.randrange(30))]
                visited = run(code, answers).visited
                for chosen in some_of(finals(code))[:20]:
                    wanted = sum([visited.count(final) for final in chosen])
                    self.assertEqual(dispatches(code, chosen, answers), wanted)

    def test_a_thousand_answers(self):
        self.assertEqual(dispatches(Code(WHILE), [1], [1, 0] * 500), 500)
        self.assertEqual(dispatches(Code(WHILE), [], [1, 0] * 500), 0)

    def test_blocks_that_are_not_left_normally(self):
        code = Code(("while", "w", ("final", ("do", "a"), ("if", "b", ("do", "c"), ("continue", 1)))))
        self.assertEqual([dispatches(code, [1], [1, 0]), dispatches(code, [1], [1, 1] * 5 + [1, 0])], [1, 1])


class FewestFlags(unittest.TestCase):
    def trial(self, code, totals, most):
        for chosen in some_of(finals(code)):
            if totals[tuple(chosen)] <= most:
                return chosen
        return None

    def test_a_trial_of_all_lists(self):
        for statement in SAMPLES:
            code = Code(statement)
            if len(finals(code)) > 6:
                continue
            totals = {tuple(chosen): total_with(code, chosen) for chosen in some_of(finals(code))}
            bounds = set(totals.values()) | {value - 1 for value in totals.values()} | {0, 10**39}
            for most in bounds:
                found = fewest_flags(code, most)
                self.assertEqual(found, self.trial(code, totals, most), (statement, most))

    def test_none(self):
        self.assertIs(fewest_flags(Code(WHILE), 5), None)
        self.assertIs(fewest_flags(Code(WHILE), 0), None)
        self.assertIs(fewest_flags(Code(("do", "a")), 0), None)
        self.assertEqual(fewest_flags(Code(("do", "a")), 1), [])

    def test_the_least_of_equally_long_lists(self):
        two = ("seq", (("final", ("call", "a"), ("do", "b")), ("final", ("call", "c"), ("do", "d"))))
        code = Code(two)
        self.assertEqual([total_with(code, chosen) for chosen in some_of([1, 4])], [10, 8, 8, 6])
        found = [fewest_flags(code, most) for most in (10, 9, 8, 7, 6, 5)]
        self.assertEqual(found, [[], [1], [1], [1, 4], [1, 4], None])
        two = ("seq", (("final", ("call", "a"), ("do", "b")), ("final", THREE, ("do", "d"))))
        self.assertEqual([fewest_flags(Code(two), most) for most in (14, 13, 12, 11, 10)], [[], [1], [1], [4], [4]])

    def test_six_finals(self):
        for count in (6, 7, 25):
            code = Code(tower(count, ("call", "x")))
            if count == 6:
                self.assertEqual(fewest_flags(code, len(reached(code))), finals(code))
                self.assertEqual(fewest_flags(code, total(code)), [])
                continue
            for most in (0, 10**39, total(code)):
                with self.assertRaises(LimitExceeded) as caught:
                    fewest_flags(code, most)
                self.assertEqual(caught.exception.limit, 6)

    def test_finals_that_are_dead_count_for_the_limit(self):
        code = Code(("seq", (("return",),) + (("final", ("call", "a"), ("do", "b")),) * 7))
        with self.assertRaises(LimitExceeded):
            fewest_flags(code, 3)
        code = Code(("seq", (("return",),) + (("final", ("call", "a"), ("do", "b")),) * 6))
        self.assertEqual(fewest_flags(code, 3), [])


class Errors(unittest.TestCase):
    def refuse(self, code, value, at):
        for asked in (lambda: total_with(code, value), lambda: dispatches(code, value, [])):
            with self.assertRaises(InvalidFinals) as caught:
                asked()
            self.assertEqual(caught.exception.at, at)

    def test_what_is_no_list(self):
        for value in NO_LISTS:
            self.refuse(Code(WHILE), value, -1)

    def test_what_is_no_final(self):
        for value in NO_FINALS:
            with self.subTest(value=value):
                self.refuse(Code(WHILE), [value], 0)
                self.refuse(Code(WHILE), [1, value], 1)
                self.refuse(Code(WHILE), [value, value], 0)

    def test_earlier_and_double_ones(self):
        code = Code(tower(4, ("call", "x")))
        every = finals(code)
        self.refuse(code, every[::-1], 1)
        self.refuse(code, [every[0], every[0]], 1)
        self.refuse(code, [every[0], every[2], every[1], None], 2)
        self.refuse(code, every + [every[-1]], 4)
        self.refuse(code, [True] + every, 0)
        self.refuse(code, [0, True], 1)

    def test_bounds(self):
        for code in (Code(WHILE), Code(tower(7, THREE))):
            for value in NO_BOUNDS:
                with self.assertRaises(InvalidBound) as caught:
                    fewest_flags(code, value)
                self.assertIs(caught.exception.bound, value)

    def test_finals_come_before_answers(self):
        c = Code(WHILE)
        with self.assertRaises(InvalidFinals) as caught:
            dispatches(c, [0], [2])
        self.assertEqual(caught.exception.at, 0)
        for answers, at in (([2], 0), ([0, True], 1), (None, -1), ([0] * 1001, -1), ((), -1)):
            with self.assertRaises(InvalidAnswers) as caught:
                dispatches(c, [1], answers)
            self.assertEqual(caught.exception.at, at)


class NewResults(unittest.TestCase):
    def test_changing_a_result_changes_no_later_one(self):
        c = Code(WHILE)
        for most, wanted in ((8, []), (6, [1])):
            fewest_flags(c, most).append(7)
            self.assertEqual(fewest_flags(c, most), wanted)

    def test_equal_codes_give_equal_results(self):
        for statement in SAMPLES[:30]:
            one, other = Code(statement), Code(statement)
            total(one)
            self.assertEqual(total_with(one, finals(one)[1:]), total_with(other, finals(other)[1:]))
            self.assertEqual(total_with(one, finals(one)[1:]), total_with(one, finals(one)[1:]))


if __name__ == "__main__":
    unittest.main()
