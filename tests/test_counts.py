"""Points 1, 2, 19, 20 and 21: numbers of moments and of addresses."""

import inspect
import unittest

import reference
from finallycopies import counts as module
from finallycopies.code import Code
from finallycopies.counts import all_moments, copies, moments, most_copied, total
from finallycopies.errors import InvalidNumber
from finallycopies.ways import reached
from samples import DROPPING, MIXED, NO_NUMBERS, WHILE, all_of_size, chain, flat, random_statements
from towers import THREE, breaking, scattered, tower

def counted(code, places):
    return [copies(code, place) for place in places]


class Examples(unittest.TestCase):
    def test_e13(self):
        c = Code(WHILE)
        self.assertEqual([copies(c, 5), copies(c, 0), total(c), all_moments(c), most_copied(c)], [2, 1, 8, 8, (2, 1)])

    def test_e14(self):
        n = Code(DROPPING)
        self.assertEqual([total(n), all_moments(n), copies(n, 5), moments(n, 5)], [10, 11, 1, 2])

    def test_the_example_of_point_20(self):
        self.assertEqual(counted(Code(WHILE), range(6)), [1, 2, 1, 1, 1, 2])


class Interface(unittest.TestCase):
    def test_functions_stand_in_the_file(self):
        for name in ("moments", "copies", "all_moments", "total", "most_copied"):
            self.assertEqual(getattr(module, name).__module__, "finallycopies.counts")

    def test_names_of_arguments(self):
        wanted = {moments: ["code", "place"], copies: ["code", "place"], all_moments: ["code"]}
        wanted.update({total: ["code"], most_copied: ["code"]})
        for made, names in wanted.items():
            self.assertEqual(list(inspect.signature(made).parameters), names)

    def test_arguments_by_name(self):
        c = Code(WHILE)
        self.assertEqual([moments(place=5, code=c), copies(place=5, code=c)], [2, 2])
        self.assertEqual([all_moments(code=c), total(code=c), most_copied(code=c)], [8, 8, (2, 1)])

    def test_equal_codes_give_equal_results(self):
        one, other = Code(MIXED), Code(MIXED)
        for place in one.places():
            self.assertEqual(copies(one, place), copies(other, place))
        self.assertEqual([total(one), total(one)], [total(other), total(other)])
        self.assertEqual(one, other)


class Search(unittest.TestCase):
    """Compared with all moments that runs come to, told apart by what follows them."""

    def check(self, statement):
        code = Code(statement)
        classes = reference.classes(statement)
        many = {}
        for place in code.places():
            found = [moment for moment in classes if moment[0] == place]
            many[place] = len({classes[moment] for moment in found})
            self.assertEqual(moments(code, place), len(found), (statement, place))
            self.assertEqual(copies(code, place), many[place], (statement, place))
        self.assertEqual(all_moments(code), len(classes), statement)
        self.assertEqual(total(code), sum(many.values()), statement)
        most = max(many.values())
        wanted = (most, min([place for place in many if many[place] == most]))
        self.assertEqual(most_copied(code), wanted, statement)

    def test_small_codes(self):
        for size in range(1, 5):
            for statement in all_of_size(size, 0):
                self.check(statement)

    def test_larger_codes(self):
        for statement in [WHILE, MIXED, DROPPING] + random_statements(40, 400, range(5, 24), 9):
            self.check(statement)

    def test_towers(self):
        for count in range(1, 5):
            self.check(tower(count, ("call", "x")))
            self.check(tower(count, THREE))
            self.check(breaking(count))
            self.check(chain("while", count, tower(3, ("if", "a", ("break", count), ("continue", 1)))))


class Moments(unittest.TestCase):
    def test_the_product_of_the_ways(self):
        inner = ("final", THREE, ("final", ("call", "c"), ("do", "d")))
        code = Code(("final", ("call", "e"), inner))
        found = [moments(code, place) for place in code.places()]
        # In order: the end of 0, its body, the end of 2, its body, the end of 6, its body and block.
        self.assertEqual(found, [2, 1, 6, 2, 2, 2, 12, 6, 12])
        self.assertEqual(all_moments(code), 45)

    def test_ways_that_share_a_route_are_still_several_moments(self):
        code = Code(("while", "a", ("final", ("if", "b", ("do", "x"), ("continue", 1)), ("do", "y"))))
        self.assertEqual([moments(code, 5), copies(code, 5), all_moments(code), total(code)], [2, 1, 8, 6])

    def test_places_that_are_not_reached(self):
        code = Code(("seq", (("final", ("call", "a"), ("return",)), ("do", "b"))))
        self.assertEqual([moments(code, place) for place in code.places()], [0, 1, 2, 0])
        self.assertEqual(counted(code, code.places()), [0, 1, 1, 0])
        self.assertEqual([all_moments(code), total(code)], [3, 2])

    def test_a_dead_block_in_a_block(self):
        code = Code(("final", ("call", "a"), ("seq", (("return",), ("final", ("call", "b"), ("do", "c"))))))
        self.assertEqual([(place, copies(code, place)) for place in (4, 5, 6, 0)], [(4, 0), (5, 0), (6, 0), (0, 0)])
        self.assertEqual(reached(code), [1, 3])


class Copies(unittest.TestCase):
    def test_no_finals(self):
        code = Code(("while", "a", ("seq", (("call", "b"), ("if", "c", ("break", 1), ("do", "d"))))))
        self.assertEqual([total(code), all_moments(code), most_copied(code)], [5, 5, (1, 0)])

    def test_a_body_is_not_copied_for_its_own_final(self):
        code = Code(chain("body", 3, THREE))
        # The blocks of all three are copied for the three routes behind them.
        self.assertEqual(counted(code, range(6)), [3, 3, 3, 1, 1, 1])

    def test_routes_through_several_blocks(self):
        code = Code(("while", "a", ("final", ("final", THREE, ("do", "b")), ("do", "c"))))
        self.assertEqual(counted(code, range(8)), [1, 3, 3, 1, 1, 1, 3, 3])

    def test_layers_further_outside_are_known_by_routes(self):
        inner = ("try", ("final", ("call", "b"), ("do", "c")), ("do", "d"))
        code = Code(("final", ("call", "a"), inner))
        # At 5 the raise goes on to the handler, otherwise the end of 0 follows: both need 0.
        self.assertEqual([moments(code, 5), copies(code, 5), copies(code, 4), copies(code, 6)], [4, 4, 2, 2])
        inner = ("final", ("call", "b"), ("do", "c"))
        code = Code(("final", ("call", "a"), inner))
        # Without the handler the pending raise drops what is pending at 0.
        self.assertEqual([moments(code, 4), copies(code, 4), copies(code, 3)], [4, 3, 2])

    def test_layers_that_are_known_together(self):
        inner = ("final", ("call", "c"), ("if", "d", ("do", "e"), ("raise",)))
        code = Code(("final", ("call", "a"), ("try", inner, ("do", "b"))))
        # At the if 0 and 3 are needed; behind both routes of 3 there is 0 again.
        self.assertEqual([copies(code, place) for place in (3, 4, 5, 6, 7, 8)], [4, 2, 4, 4, 2, 2])

    def test_blocks_on_a_route_need_what_their_entries_need(self):
        inner = ("final", ("call", "c"), ("do", "d"))
        code = Code(("final", ("call", "a"), ("final", inner, ("do", "e"))))
        # At 3, the body, 0 is needed; behind the raise, with the block of 2, it is not.
        self.assertEqual([copies(code, place) for place in (3, 4, 5, 6, 2)], [3, 2, 3, 3, 3])
        code = Code(("final", ("call", "a"), ("try", ("final", inner, ("call", "e")), ("do", "f"))))
        # Behind both ways of 4 the block of 3 can raise to the handler, which needs 0.
        self.assertEqual([copies(code, place) for place in (4, 5, 6, 7, 3, 8)], [4, 2, 4, 4, 4, 2])
        code = Code(("final", ("call", "a"), ("final", inner, ("raise",))))
        # The block of 2 is never left normally, and both ways of 3 have one route.
        self.assertEqual([copies(code, place) for place in (3, 5, 6, 2, 0)], [1, 1, 1, 0, 0])
        block = ("if", "g", ("raise",), ("return",))
        code = Code(("final", ("call", "a"), ("try", ("final", inner, block), ("do", "f"))))
        # One route behind 4 has no goal, but its last block can raise to the handler.
        self.assertEqual([copies(code, place) for place in (4, 6, 7, 8, 9, 10, 0)], [2, 2, 2, 2, 1, 2, 2])

    def test_the_least_place_with_the_most_copies(self):
        self.assertEqual(most_copied(Code(("do", "a"))), (1, 0))
        self.assertEqual(most_copied(Code(("seq", (("do", "a"),)))), (1, 1))
        code = Code(("seq", (("do", "a"), ("final", ("call", "b"), ("do", "c")))))
        self.assertEqual(most_copied(code), (2, 2))
        code = Code(("seq", (("do", "a"), ("final", THREE, ("seq", (("do", "c"), ("return",)))))))
        self.assertEqual(most_copied(code), (1, 1))
        code = Code(("final", THREE, ("seq", (("do", "c"), ("call", "d")))))
        self.assertEqual([most_copied(code), copies(code, 6)], [(3, 0), 3])
        code = Code(("final", THREE, ("seq", (("do", "c"), ("return",)))))
        self.assertEqual(most_copied(code), (1, 1))
        code = Code(("final", ("do", "a"), ("final", THREE, ("do", "b"))))
        self.assertEqual([counted(code, code.places()), most_copied(code)], [[1, 1, 3, 1, 1, 1, 3], (3, 2)])


class Towers(unittest.TestCase):
    def test_two_routes_each(self):
        # With the layers from 1, the outermost: N of layer j is 2 ** j, since both the end of the
        # block around it and the handler there need layer j - 1. Body j has 2 ** (j - 1)
        # addresses, and the end of block j, its handler and at last z 2 ** j. The innermost
        # handler is not reached.
        for count in (1, 2, 22, 25):
            code = Code(tower(count, ("call", "x")))
            self.assertEqual(total(code), 5 * 2**count - 5)
            self.assertEqual(all_moments(code), 5 * 2**count - 5)
            inner = 3 * (count - 1)
            self.assertEqual(copies(code, inner), 2**count)
            self.assertEqual(copies(code, inner + 1), 2 ** (count - 1))
            self.assertEqual(copies(code, inner + 3), 2**count)
            self.assertEqual(copies(code, inner + 4), 0)
            self.assertEqual(moments(code, inner + 3), 2**count)
            self.assertEqual(most_copied(code), (2**count, inner))

    def test_three_ways_each(self):
        # Behind a return nothing is needed: N of layer j is 2 * N of layer j - 1 and 1 more.
        for count in (1, 2, 24, 25):
            code = Code(tower(count, THREE))
            inner = 5 * (count - 1)
            self.assertEqual(code.kind(inner), "final")
            self.assertEqual(moments(code, inner), 3**count)
            self.assertEqual(copies(code, inner), 2 ** (count + 1) - 1)
            self.assertEqual(most_copied(code), (2 ** (count + 1) - 1, inner))

    def test_needed_layers_that_come_together(self):
        # Let A(j) be N of layer j, from 1, and B(j) be N of the layers j and j - 1 together. Behind
        # layer j there is, for break 1, the end of block j - 1, which needs j - 1; for break 2 the
        # end of block j - 2, which needs j - 2; normally the while in block j - 1, which needs both.
        for count in (1, 2, 3, 25):
            code = Code(breaking(count))
            alone, both = [1, 3], [1, 3]
            for layer in range(2, count + 1):
                alone.append(alone[layer - 1] + alone[layer - 2] + both[layer - 1])
                both.append(alone[layer - 1] + 2 * both[layer - 1])
            for layer in range(1, count + 1):
                final = 2 + 7 * (layer - 1)
                inside = alone[layer] if layer == count else both[layer]
                wanted = [alone[layer], both[layer - 1], inside]
                self.assertEqual(counted(code, [final, final + 1, final + 6]), wanted)
                self.assertEqual(moments(code, final), 3**layer)
            self.assertEqual(copies(code, len(code) - 1), alone[count])

    def test_layers_that_are_known_together_in_very_many_ways(self):
        # Behind each of the layers 18 to 25 there are 18 routes: to the end of one of the blocks 1
        # to 17, behind which there is one, or out of all. All of 18 to 25 are known at the innermost
        # while and if, and those that the code can come to from there at the others.
        code = Code(scattered(17, 8))
        powers = [18**count for count in range(9)]
        inner = len(code) - 17
        self.assertEqual(counted(code, [inner - 1, inner, len(code) - 1]), [powers[8], powers[8], 1])
        # The innermost ifs and whiles, breaks, ends of blocks, and the 35 places of each body.
        wanted = 2 * sum(powers[1:]) + 8 * 18 + 8 * 18 + 35 * sum(powers[:8])
        # The innermost return, and three places of each of the levels 1 to 17.
        self.assertEqual(total(code), wanted + 1 + 3 * 17)
        self.assertEqual(most_copied(code), (powers[8], inner - 1))

    def test_blocks_in_blocks_without_a_choice(self):
        code = Code(chain("block", 25, ("call", "a")))
        self.assertEqual([total(code), all_moments(code), most_copied(code)], [51, 51, (1, 0)])

    def test_many_ways_to_one_place(self):
        # Both ways of the bodies come back to the while: one address at each place.
        made = ("do", "z")
        for _ in range(25):
            body = ("if", "a", ("do", "x"), ("continue", 1))
            made = ("while", "w", ("final", body, made))
        code = Code(made)
        self.assertEqual([copies(code, place) for place in (len(code) - 1, 121, 1)], [1, 1, 1])
        self.assertEqual([total(code), moments(code, len(code) - 1)], [len(code), 2**25])

    def test_finals_in_bodies_only(self):
        code = Code(chain("body", 99, ("call", "a")))
        self.assertEqual([total(code), all_moments(code), most_copied(code)], [1 + 4 * 99, 1 + 4 * 99, (2, 0)])


class Numbers(unittest.TestCase):
    def test_what_is_no_place(self):
        code = Code(MIXED)
        others = tuple([number for number in range(len(code)) if code.kind(number) in ("seq", "try")])
        for value in NO_NUMBERS + others + (len(code),):
            for asked in (moments, copies):
                with self.subTest(value=value, asked=asked):
                    with self.assertRaises(InvalidNumber) as caught:
                        asked(code, value)
                    self.assertIs(caught.exception.number, value)

    def test_results_are_integers(self):
        code = Code(WHILE)
        found = [moments(code, 0), copies(code, 0), total(code), all_moments(code)] + list(most_copied(code))
        for value in found:
            self.assertIs(int, value.__class__)
        self.assertIsInstance(most_copied(code), tuple)

    def test_large_codes(self):
        self.assertEqual([total(Code(flat(400))), all_moments(Code(flat(400)))], [399, 399])
        for kind in ("while", "if", "other", "seq", "try"):
            code = Code(("final", ("call", "a"), chain(kind, 98, ("call", "b"))))
            self.assertEqual(total(code), 2 * len(reached(code)) - 1)


if __name__ == "__main__":
    unittest.main()
