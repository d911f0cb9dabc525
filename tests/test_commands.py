import unittest
from itertools import product

from fourtouch.commands import is_command, is_number, split_words, word_of

NO_NUMBERS = (
    "", "-", "-0", "-1", "+1", "+0", "00", "01", "007", "1.0", "1_0", "1e3", "0x1", "a", "1a", "a1", " 1", "1 ", "1\n",
    "1\t", "1-", "--1", "\u0661", "\u00b2", "\uff11", "\u2460", "\u0be7", "1\u0660", "None", "one", "2\r",
)
NO_PLACES = ("0", "5", "01", "-1", "+1", "a", "", "11", "12", "1.", " 1", "1 ", "\u0661", "\u00b9", "True", "1\n", "one")
NAMES = ("f", "four", "end", "abcdefghijkl", "a1b2", "z0", "alike", "circles", "undo", "z9z9z9z9z9z9")
NO_NAMES = (
    "abcdefghijklm", "a" * 200, "", "F", "fF", "Four", "1f", "0", "7", "f_", "_f", "f-g", "-", "\u00e4", "a\u00e4",
    "f.", "f\t", "f\n", "a\u0661", "\uff41", "FOUR", "NAME",
)
# The number of names behind each word whose command has names alone.
COUNTS = {"four": 1, "remove": 1, "drop": 1, "answer": 1, "print": 1,
          "answers": 0, "fours": 0, "questions": 0, "undo": 0, "redo": 0}
KINDS = {"alike": 2, "same": 2, "root": 1}


class Words(unittest.TestCase):
    def test_spaces(self):
        for line, words in (
            ("", []), (" ", []), ("     ", []), ("a", ["a"]), (" a", ["a"]), ("a ", ["a"]), ("   a   ", ["a"]),
            ("a b", ["a", "b"]), ("a  b", ["a", "b"]), ("  a   b    c ", ["a", "b", "c"]), ("a b a", ["a", "b", "a"]),
        ):
            self.assertEqual(split_words(line), words)
            self.assertIs(split_words(line).__class__, list)

    def test_only_spaces_part_words(self):
        for other in ("\t", "\r", "\f", "\v", "\u00a0", "\u2003", "\u2028", "\x1c", "\x85", ",", "-"):
            self.assertEqual(split_words("a" + other + "b"), ["a" + other + "b"])
            self.assertEqual(split_words(" " + other + " "), [other])
            self.assertEqual(split_words("a " + other + " b"), ["a", other, "b"])

    def test_new_lists(self):
        words = split_words("a b")
        words.append("c")
        self.assertEqual(split_words("a b"), ["a", "b"])


class Numbers(unittest.TestCase):
    def test_numbers(self):
        for word in ("0", "1", "9", "10", "100", "10000", "10001", "1234567890", "9" * 199, "9" * 200, "1" + "0" * 199):
            self.assertIs(is_number(word), True, word)

    def test_no_numbers(self):
        for word in NO_NUMBERS:
            self.assertIs(is_number(word), False, repr(word))

    def test_digits(self):
        for digits in range(1, 201):
            self.assertIs(is_number("7" * digits), True)
        for digits in (201, 202, 400, 5000):
            self.assertIs(is_number("7" * digits), False)
        self.assertIs(is_number("0" * 200), False)
        self.assertIs(is_number("-" + "1" * 199), False)

    def test_each_single_letter(self):
        for letter in map(chr, range(0x3000)):
            self.assertIs(is_number(letter), letter in "0123456789", repr(letter))
            self.assertIs(is_number("1" + letter), letter in "0123456789", repr(letter))


class WordsOfNumbers(unittest.TestCase):
    def test_none_and_several(self):
        self.assertEqual(word_of([]), ())
        self.assertEqual(word_of(()), ())
        for size in range(1, 5):
            for numbers in product((1, 2, 3, 4), repeat=size):
                words = [str(number) for number in numbers]
                told = word_of(words)
                self.assertEqual(told, numbers)
                self.assertIs(told.__class__, tuple)
                self.assertTrue(all(number.__class__ is int for number in told))
                self.assertEqual(words, [str(number) for number in numbers])
                self.assertEqual(word_of(tuple(words)), numbers)
        self.assertEqual(word_of(["1", "2"] * 5000), (1, 2) * 5000)

    def test_one_that_is_none(self):
        for wrong in NO_PLACES:
            for words in ([wrong], ["1", wrong], [wrong, "1"], ["1", "2", wrong, "3"], [wrong, wrong]):
                self.assertIsNone(word_of(words), words)


class Commands(unittest.TestCase):
    def assert_command(self, *words):
        given = list(words)
        self.assertIs(is_command(given), True, words)
        self.assertEqual(given, list(words))

    def assert_none(self, *words):
        given = list(words)
        self.assertIs(is_command(given), False, words)
        self.assertEqual(given, list(words))

    def assert_just_so(self, first, *rest):
        """The words are a command; with one left out, put behind or exchanged by no name they are none."""
        self.assert_command(first, *rest)
        self.assert_none(first, *rest, "f")
        self.assert_none("f", first, *rest)
        self.assert_none(first, *rest, "1")
        self.assert_none(first, *rest, "")
        for at in range(len(rest)):
            self.assert_none(first, *rest[:at], *rest[at + 1:])
            for wrong in NO_NAMES:
                self.assert_none(first, *rest[:at], wrong, *rest[at + 1:])
        for wrong in (first.upper(), first.title(), first + "s", first[:-1], first + ":", "", " " + first):
            if [wrong, len(rest)] not in ([name, count] for name, count in COUNTS.items()):
                self.assert_none(wrong, *rest)

    def test_names_alone(self):
        for first, many in COUNTS.items():
            for name in NAMES:
                self.assert_just_so(first, *[name] * many)

    def test_no_words_of_commands(self):
        for first in ("end", "f", "set", "walks", "asks", "circle", "circles", "alike", "same", "root", "quit", "", "1",
                      "-", "#", "NAME", "ok", "circles_of", "question", "run"):
            for rest in ([], ["f"], ["f", "g"], ["f", "1"], ["q", "root", "f"], ["q", "circles", "f", "3"]):
                self.assert_none(first, *rest)

    def test_each_command_with_some_words_of_others(self):
        for first, many in COUNTS.items():
            for size in range(4):
                for rest in product(("f", "four", "3"), repeat=size):
                    right = size == many and "3" not in rest
                    self.assertIs(is_command([first, *rest]), right, (first, rest))

    def test_walks(self):
        for name in NAMES:
            for word in ([], ["1"], ["2", "2"], ["1", "2", "3", "4"], ["4"] * 300):
                self.assert_command("walk", name, *word)
        for wrong in NO_NAMES:
            for word in ([], ["1"], ["1", "2"]):
                self.assert_none("walk", wrong, *word)
        for wrong in NO_PLACES + ("f", "walk"):
            for word in ([wrong], ["1", wrong], [wrong, "4"], ["1", wrong, "2"]):
                self.assert_none("walk", "f", *word)
        self.assert_none("walk")
        self.assert_none("walk", "1")
        self.assert_none("walk", "1", "f")
        self.assert_none("Walk", "f", "1")
        self.assert_none("WALK", "f")
        self.assert_none("walks", "f", "1")

    def test_questions_with_fours_alone(self):
        for kind, many in KINDS.items():
            for name in NAMES:
                self.assert_command("ask", name, kind, *[name] * many)
                for size in range(5):
                    if size != many:
                        self.assert_none("ask", name, kind, *[name] * size)
                for number in ("0", "5", "10000", "-1"):
                    self.assert_none("ask", name, kind, *[name] * many, number)
                    self.assert_none("ask", name, kind, *[name] * (many - 1), number)
                    self.assert_none("ask", name, kind, number, *[name] * many)
            for wrong in NO_NAMES:
                self.assert_none("ask", wrong, kind, *["f"] * many)
                for at in range(many):
                    fours = ["f"] * many
                    fours[at] = wrong
                    self.assert_none("ask", "q", kind, *fours)

    def test_questions_for_circles(self):
        for name in NAMES:
            for number in ("0", "1", "17", "10000", "10001", "9" * 200):
                self.assert_command("ask", name, "circles", name, number)
                self.assert_none("ask", name, "circles", number)
                self.assert_none("ask", name, "circles", name, name, number)
                self.assert_none("ask", name, "circles", number, name)
                self.assert_none("ask", name, "circles", name, number, number)
                self.assert_none("ask", name, "circles", name, number, "f")
                self.assert_none("ask", "circles", name, number)
        for wrong in NO_NUMBERS + ("9" * 201, "f", "1" * 5000):
            self.assert_none("ask", "q", "circles", "f", wrong)
        for wrong in NO_NAMES:
            self.assert_none("ask", wrong, "circles", "f", "6")
            self.assert_none("ask", "q", "circles", wrong, "6")
        self.assert_none("ask", "q", "circles", "f")
        self.assert_none("ask", "q", "circles")

    def test_no_questions(self):
        self.assert_none("ask")
        self.assert_none("ask", "q")
        for kind in ("", "Alike", "ROOT", "roots", "circle", "q", "1", "four", "same ", "touch"):
            for rest in ([], ["f"], ["f", "g"], ["f", "6"]):
                self.assert_none("ask", "q", kind, *rest)
        self.assert_none("Ask", "q", "root", "f")
        self.assert_none("ask", "root", "f")
        self.assert_none("ask", "root", "q", "f")
        self.assert_none("ask", "q", "f", "root")

    def test_names_that_are_words_of_commands(self):
        for name in ("four", "walk", "remove", "ask", "drop", "answer", "answers", "print", "fours", "questions", "undo",
                     "redo", "end", "alike", "same", "root", "circles", "line", "ok"):
            self.assert_command("four", name)
            self.assert_command("walk", name, "1", "2")
            self.assert_command("remove", name)
            self.assert_command("drop", name)
            self.assert_command("answer", name)
            self.assert_command("print", name)
            self.assert_command("ask", name, "alike", name, name)
            self.assert_command("ask", name, "same", name, name)
            self.assert_command("ask", name, "root", name)
            self.assert_command("ask", name, "circles", name, "0")

    def test_lengths_of_names(self):
        for size in range(1, 15):
            self.assertIs(is_command(["print", "a" * size]), size <= 12)
            self.assertIs(is_command(["walk", "a" + "0" * (size - 1), "1"]), size <= 12)
            self.assertIs(is_command(["ask", "q", "circles", "z" * size, "1"]), size <= 12)


if __name__ == "__main__":
    unittest.main()
