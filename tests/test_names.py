import unittest

from fourtouch.names import is_name

LETTERS = "abcdefghijklmnopqrstuvwxyz"
DIGITS = "0123456789"


class Names(unittest.TestCase):
    def test_names(self):
        for text in ("a", "z", "f1", "a0", "z9", "abcdefghijkl", "a23456789012", "zzzzzzzzzzzz", "x0y1z2", "four"):
            self.assertIs(is_name(text), True, text)

    def test_lengths(self):
        for length in range(1, 13):
            self.assertIs(is_name("b" * length), True)
            self.assertIs(is_name("b" + "7" * (length - 1)), True)
        for length in (13, 14, 50, 1000):
            self.assertIs(is_name("b" * length), False)
            self.assertIs(is_name("b" + "7" * (length - 1)), False)
        self.assertIs(is_name(""), False)

    def test_every_sign(self):
        signs = [chr(code) for code in range(0, 0x250)] + list("\u0431\u03b1\u0660\u0967\uff11\uff41\u2160\u00b2\U0001d7d8")
        for sign in signs:
            self.assertIs(is_name(sign), sign in LETTERS, repr(sign))
            self.assertIs(is_name("a" + sign), sign in LETTERS or sign in DIGITS, repr(sign))
            self.assertIs(is_name("a" + sign + "b"), sign in LETTERS or sign in DIGITS, repr(sign))

    def test_no_names(self):
        for text in ("1", "1a", "9z", "A", "Aa", "aA", "aB1", " a", "a ", "a b", "a_b", "_a", "a-b", "-a", "a.b", "a\n",
                     "\na", "a\tb", "\u00e4", "a\u00df", "abcdefghijkL", "0abcdefghijk"):
            self.assertIs(is_name(text), False, text)


if __name__ == "__main__":
    unittest.main()
