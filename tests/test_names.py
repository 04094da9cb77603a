import unittest

from onlyrise.names import is_mark, is_name
from tests.samples import OTHER_THINGS

OTHER_SIGNS = [chr(code) for code in range(32, 127) if not "a" <= chr(code) <= "z"] + ["\n"]


class Names(unittest.TestCase):
    def test_how_long(self):
        for many in range(1, 9):
            self.assertIs(is_name("abcdefgh"[:many]), True)
        self.assertIs(is_name(""), False)
        self.assertIs(is_name("abcdefghi"), False)
        self.assertIs(is_name("a" * 5000), False)

    def test_each_small_letter(self):
        for letter in "abcdefghijklmnopqrstuvwxyz":
            self.assertIs(is_name(letter), True)

    def test_another_sign_at_every_place(self):
        for sign in OTHER_SIGNS:
            for many in (1, 2, 8):
                for place in range(many):
                    text = "z" * place + sign + "a" * (many - place - 1)
                    self.assertIs(is_name(text), False, text)

    def test_other_kinds(self):
        for thing in (0, 1, -3, True, False, None, (), ("a",), [], ["a"], ("a", "b"), (("a",),), 98765432109876543210):
            self.assertIs(is_name(thing), False, thing)
            self.assertIs(is_mark(thing), False, thing)

    def test_only_texts_among_other_things(self):
        self.assertEqual([thing for thing in OTHER_THINGS if is_name(thing)], ["a", "num"])
        self.assertEqual([thing for thing in OTHER_THINGS if is_mark(thing)], ["A"])


class Marks(unittest.TestCase):
    def test_each_sign(self):
        for code in range(32, 127):
            self.assertIs(is_mark(chr(code)), chr(code) in "ABCDEF", chr(code))
        self.assertIs(is_mark("\n"), False)

    def test_one_letter_alone(self):
        for text in ("", "AB", "AA", "ABCDEF", "BC", "A ", " A", "Aa", "A\n"):
            self.assertIs(is_mark(text), False, text)

    def test_no_name_is_a_mark(self):
        for mark in "ABCDEF":
            self.assertIs(is_name(mark), False)


if __name__ == "__main__":
    unittest.main()
