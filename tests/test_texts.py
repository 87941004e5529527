"""Points 2 and 32: codes as texts."""

import functools
import inspect
import itertools
import random
import unittest

from finallycopies import texts as module
from finallycopies.code import Code
from finallycopies.errors import CopyError, InvalidCode, InvalidText, LimitExceeded
from finallycopies.texts import read, show
from samples import DROPPING, MIXED, WHILE, Anything, all_of_size, chain, flat, random_statements
from towers import THREE, breaking, tower

NO_STRINGS = (None, True, 0, 1, b"return", b"", (), ("return",), [], ["return"], {}, {"return"}, object(), Anything())
KINDS = ("do", "call", "if", "while", "seq", "break", "continue", "return", "raise", "try", "final")
# None of these begins a statement.
NO_KINDS = ("", "a", "1", "DO", "Do", "doo", "d", "finally", "except", "returns", "ret", "do\n", "\tdo", "end")
NO_KINDS += ("return\t", "return,", "x" * 5000, "9" * 5000, "0", "-", "final\n", "try:", "seq1", "()", "None", "True")
NO_NAMES = ("", "abcdefghi", "a1", "A", "aB", "a_", "1", "a-b", "a\n", "\ta", "a.", "'a'", "a" * 5000, "9" * 5000)
NO_AMOUNTS = ("", "0", "00", "01", "001", "401", "999", "1000", "+1", "-1", "-0", "1.", "1.0", "1_0", "a", "one", "1a")
NO_AMOUNTS += ("0x1", "1\n", "\t1", "9" * 5000, "1" * 4301, "0" * 5000 + "1", "1" + "0" * 5000, "1" * 20, "1e2", "''")
AMOUNTS = (1, 2, 9, 10, 39, 40, 99, 100, 101, 299, 300, 399, 400)


class Examples(unittest.TestCase):
    def test_e22(self):
        self.assertEqual(show(Code(WHILE)), "while a final if b do x break 1 do y")

    def test_e23(self):
        with self.assertRaises(InvalidText) as caught:
            read("if a do b")
        self.assertEqual(caught.exception.at, 4)

    def test_e24(self):
        with self.assertRaises(InvalidCode) as caught:
            read("while a break 2")
        self.assertEqual(caught.exception.number, 1)


class Interface(unittest.TestCase):
    def test_functions_stand_in_the_file(self):
        for name, names in (("show", ["code"]), ("read", ["text"])):
            made = getattr(module, name)
            self.assertEqual(made.__module__, "finallycopies.texts")
            self.assertEqual(list(inspect.signature(made).parameters), names)

    def test_arguments_by_name(self):
        self.assertEqual(read(text="while a do b"), Code(("while", "a", ("do", "b"))))
        self.assertEqual(show(code=Code(("return",))), "return")

    def test_kinds_of_values(self):
        self.assertIs(show(Code(WHILE)).__class__, str)
        self.assertIs(read("return").__class__, Code)


class Show(unittest.TestCase):
    def test_each_kind(self):
        texts = {
            ("do", "a"): "do a",
            ("call", "abcdefgh"): "call abcdefgh",
            ("if", "b", ("do", "x"), ("return",)): "if b do x return",
            ("while", "w", ("raise",)): "while w raise",
            ("while", "w", ("break", 1)): "while w break 1",
            ("while", "w", ("continue", 1)): "while w continue 1",
            ("return",): "return",
            ("raise",): "raise",
            ("seq", (("do", "a"),)): "seq 1 do a",
            ("seq", (("do", "a"), ("seq", (("return",), ("raise",))))): "seq 2 do a seq 2 return raise",
            ("try", ("call", "a"), ("do", "b")): "try call a do b",
            ("final", ("call", "a"), ("do", "b")): "final call a do b",
        }
        for statement, text in texts.items():
            self.assertEqual(show(Code(statement)), text)
            self.assertEqual(read(text), Code(statement))
            self.assertEqual(read(text)[0], statement)

    def test_names_that_are_words_of_texts(self):
        for kind in KINDS:
            for statement in (("do", kind), ("call", kind), ("while", kind, ("do", kind))):
                self.assertEqual(read(show(Code(statement)))[0], statement)
            self.assertEqual(show(Code(("if", kind, ("do", kind), ("call", kind)))), f"if {kind} do {kind} call {kind}")

    def test_numbers(self):
        for count in (1, 9, 10, 11, 99, 100, 399):
            code = Code(flat(count + 1))
            self.assertEqual(show(code), f"seq {count}" + " do a" * count)
            self.assertEqual(read(show(code)), code)
        for number in (1, 9, 10, 11, 99):
            code = Code(chain("while", 99, ("break", number)))
            self.assertEqual(show(code), "while w " * 99 + f"break {number}")
            self.assertEqual(read(show(code)), code)

    def test_read_makes_equal_codes(self):
        statements = [WHILE, MIXED, DROPPING, tower(25, THREE), breaking(20)] + all_of_size(4, 0)
        for statement in statements + random_statements(48, 200, range(5, 30), 20):
            code = Code(statement)
            text = show(code)
            self.assertEqual(read(text), code)
            self.assertEqual(show(read(text)), text)
            self.assertEqual(read(text)[0], statement)

    def test_large_codes(self):
        for kind in ("while", "if", "other", "seq", "try", "body"):
            code = Code(chain(kind, 99, ("call", "a")))
            self.assertEqual(read(show(code)), code)


VOCABULARY = ("return", "do", "while", "seq", "final", "a", "1", "2", "break", "", "0")
NAMES = ("return", "do", "while", "seq", "final", "a", "break")


@functools.lru_cache
def texts_of(count):
    """All texts with so many words of the vocabulary, as tuples of words."""
    if count < 1:
        return ()
    found = [("return",)] if count == 1 else []
    if count == 2:
        found += [("do", name) for name in NAMES] + [("break", "1"), ("break", "2")]
    found += [("while", name) + body for name in NAMES for body in texts_of(count - 2)]
    found += [("seq", "1") + part for part in texts_of(count - 2)]
    for left in range(1, count):
        found += [("final",) + one + other for one in texts_of(left) for other in texts_of(count - 1 - left)]
        found += [("seq", "2") + one + other for one in texts_of(left) for other in texts_of(count - 2 - left)]
    return tuple(found)


class Read(unittest.TestCase):
    def refuse(self, text, at):
        with self.assertRaises(InvalidText) as caught:
            read(text)
        self.assertEqual(caught.exception.at, at, text[:80])

    def test_a_search_word_by_word(self):
        # The words "final final final final" begin a text of nine words.
        texts = {words for count in range(1, 10) for words in texts_of(count)}
        begun = {words[:count] for words in texts for count in range(5)}
        for count in range(1, 5):
            for words in itertools.product(VOCABULARY, repeat=count):
                good = [words[: at + 1] in begun for at in range(count)]
                if False in good:
                    self.refuse(" ".join(words), good.index(False))
                elif words not in texts:
                    self.refuse(" ".join(words), count)
                else:
                    self.read_whole(" ".join(words))

    def read_whole(self, text):
        try:
            self.assertEqual(show(read(text)), text)
        except InvalidCode as error:
            self.assertIn("break", text)
            self.assertGreaterEqual(error.number, 0)

    def test_one_wrong_word_in_a_text(self):
        text = "while a seq 3 try call b do c if d raise return final continue 1 break 1"
        words = text.split(" ")
        self.assertEqual(show(read(text)), text)
        for at, word in enumerate(words):
            wrong = NO_KINDS
            if words[at - 1] in ("while", "call", "do", "if"):
                wrong = NO_NAMES
            elif words[at - 1] in ("seq", "continue", "break"):
                wrong = NO_AMOUNTS
            for other in wrong:
                self.refuse(" ".join(words[:at] + [other] + words[at + 1 :]), at)
                self.refuse(" ".join(words[:at] + [other]), at)

    def test_words_that_are_lacking(self):
        text = "while a seq 3 try call b do c if d raise return final continue 1 break 1"
        words = text.split(" ")
        for count in range(1, len(words)):
            self.refuse(" ".join(words[:count]), count)
        self.refuse("do", 1)
        self.refuse("seq", 1)
        self.refuse("seq 400" + " return" * 399, 401)

    def test_words_behind_the_end(self):
        for text in ("return", "do a", "seq 2 return raise", "if a return return"):
            for word in KINDS + NO_KINDS + ("a", "1"):
                self.refuse(f"{text} {word}", len(text.split(" ")))
                self.refuse(f"{text} {word} return", len(text.split(" ")))

    def test_blanks(self):
        self.refuse("", 0)
        self.refuse(" ", 0)
        self.refuse("  ", 0)
        self.refuse(" return", 0)
        self.refuse("return ", 1)
        self.refuse("do  a", 1)
        self.refuse("do a ", 2)
        self.refuse("do ", 1)
        self.refuse("seq  1 return", 1)
        self.refuse("seq 1  return", 2)
        self.refuse("final return  raise", 2)

    def test_tabs_and_line_feeds_part_no_words(self):
        self.refuse("do\ta", 0)
        self.refuse("do\na", 0)
        self.refuse("return\n", 0)
        self.refuse("do a\n", 1)
        self.refuse("do a\ndo b", 1)
        self.refuse("while a\r\nreturn", 1)
        self.refuse("seq 2\treturn raise", 1)

    def test_amounts(self):
        for amount in AMOUNTS:
            self.refuse(f"seq {amount} a", 2)
            self.refuse(f"while a break {amount} a", 4)
            self.refuse(f"seq {amount}", 2)
        for amount in NO_AMOUNTS:
            self.refuse(f"seq {amount} return", 1)
            self.refuse(f"break {amount}", 1)
            self.refuse(f"while a continue {amount}", 3)
            self.refuse(f"while a continue {amount} return", 3)

    def test_names(self):
        for name in ("a", "z", "abcdefgh", "zzzzzzzz", "do", "final", "return"):
            self.assertEqual(read(f"do {name}")[0], ("do", name))
        for name in NO_NAMES:
            for text in (f"do {name}", f"call {name}", f"if {name} return return", f"while {name} return"):
                self.refuse(text, 1)

    def test_what_is_no_string(self):
        for value in NO_STRINGS:
            with self.assertRaises(InvalidText) as caught:
                read(value)
            self.assertEqual(caught.exception.at, -1)

    def test_two_thousand_words(self):
        # 1 + 1998 + 1 words in all.
        self.refuse("return" + " a" * 1999, 1)
        self.refuse("return" + " " * 1999, 1)
        self.refuse("try " * 1999 + "return", 2000)
        texts = ("return" + " a" * 2000, "a " * 2000 + "a", " " * 2000, "return" + " return" * 5000, "x " * 10**5)
        for text in texts:
            with self.assertRaises(LimitExceeded) as caught:
                read(text)
            self.assertEqual(caught.exception.limit, 2000)

    def test_errors_of_codes(self):
        for text, number in (("break 1", 0), ("while a break 400", 1), ("seq 2 do a continue 1", 2)):
            with self.assertRaises(InvalidCode) as caught:
                read(text)
            self.assertEqual(caught.exception.number, number)
        cases = (
            ("seq 400" + " return" * 400, 400),
            ("seq 399" + " return" * 398 + " break 1", None),
            ("while w " * 100 + "return", 100),
            ("seq 1 " * 100 + "return", 100),
            ("final do a " * 26 + "return", 25),
            ("seq 1 " * 999 + "return", 100),
            ("try " * 999 + "return " * 999 + "return", 100),
            ("while w " * 999 + "return", 100),
        )
        for text, limit in cases:
            with self.assertRaises(CopyError) as caught:
                read(text)
            if limit is None:
                self.assertIsInstance(caught.exception, InvalidCode)
                self.assertEqual(caught.exception.number, 399)
                continue
            self.assertIsInstance(caught.exception, LimitExceeded)
            self.assertEqual(caught.exception.limit, limit)

    def test_wrong_words_come_before_errors_of_codes(self):
        self.refuse("seq 2 break 1 do", 5)
        self.refuse("seq 400" + " break 7" * 399 + " a", 800)
        self.refuse("while w " * 500 + "a", 1000)

    def test_random_words(self):
        chance = random.Random(15)
        words = KINDS + ("a", "b", "1", "2", "3") + KINDS
        for _ in range(3000):
            text = " ".join([chance.choice(words) for _ in range(chance.randint(1, 12))])
            try:
                self.assertEqual(show(read(text)), text)
            except InvalidText as error:
                count = len(text.split(" "))
                self.assertLessEqual(error.at, count)
                # What stands before the wrong word can go on.
                begin = text.split(" ")[: error.at]
                for further in ("x", "1", "?"):
                    with self.assertRaises(InvalidText) as caught:
                        read(" ".join(begin + [further, "?"]))
                    self.assertGreaterEqual(caught.exception.at, error.at)
            except InvalidCode:
                self.assertTrue("break" in text or "continue" in text)

    def test_equal_texts_give_equal_codes(self):
        text = show(Code(MIXED))
        self.assertEqual(read(text), read(text))
        self.assertEqual(show(read(text)), show(read(text)))


if __name__ == "__main__":
    unittest.main()
