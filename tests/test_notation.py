import sys
import unittest

from fourtouch.errors import InvalidCircle, InvalidFour, InvalidNotation
from fourtouch.fours import Four
from fourtouch.notation import format_four, parse_four
from tests.helper import BUGEYE, LONG_WORD, ROOTS, bugeye, error_of, reduced_up_to, walked

TEXT = "four\ncircle -1 1 0 0\ncircle 2 0 1 0\ncircle 2 0 -1 0\ncircle 3 1 0 2"


def line_of(text):
    """The line that InvalidNotation tells of a text; the text is of another form."""
    error = error_of(parse_four, text)
    if error.__class__ is not InvalidNotation:
        raise AssertionError((text, error))
    return error.line


def moved_far(four, steps):
    """The four, moved to the right by so many steps."""
    return Four([(b, c + 2 * x * steps + b * steps * steps, x + b * steps, y) for b, c, x, y in four.circles])


class Writing(unittest.TestCase):
    def test_examples(self):
        self.assertEqual(
            format_four(parse_four(TEXT).exchanged(4)),
            "four\ncircle -1 1 0 0\ncircle 2 0 1 0\ncircle 2 0 -1 0\ncircle 3 1 0 -2",
        )
        self.assertIs(error_of(parse_four, "four\ncircle 1 2 3").__class__, InvalidNotation)
        self.assertIs(error_of(parse_four, "four").__class__, InvalidFour)

    def test_writing(self):
        self.assertEqual(format_four(bugeye()), TEXT)
        for root in ROOTS:
            lines = ["four"] + ["circle %d %d %d %d" % circle for circle in root]
            self.assertEqual(format_four(Four(root)), "\n".join(lines))

    def test_reading_back(self):
        for root in ROOTS:
            for word in reduced_up_to(3) + [LONG_WORD[:200]]:
                four = walked(Four(root), word)
                again = parse_four(format_four(four))
                self.assertIs(again.__class__, Four)
                self.assertEqual(again.circles, four.circles)

    def test_integers_beyond_what_python_writes_at_once(self):
        for figures in (63, 64, 65, 128, 640, 5000, 9001):
            four = moved_far(bugeye(), 10 ** figures - 1)
            keeps_a_bound = hasattr(sys, "set_int_max_str_digits")
            text = format_four(four)
            try:
                if keeps_a_bound:
                    bound = sys.get_int_max_str_digits()
                    sys.set_int_max_str_digits(0)
                lines = ["circle %d %d %d %d" % circle for circle in four.circles]
            finally:
                if keeps_a_bound:
                    sys.set_int_max_str_digits(bound)
            self.assertEqual(text, "\n".join(["four"] + lines))

    def test_blocks_of_noughts(self):
        for steps in (10 ** 64, 10 ** 128, 10 ** 65 + 1, -10 ** 64):
            four = moved_far(bugeye(), steps)
            expected = "\n".join(["four"] + ["circle %d %d %d %d" % circle for circle in four.circles])
            self.assertEqual(format_four(four), expected)
            if steps != 10 ** 128:
                self.assertEqual(parse_four(expected).circles, four.circles)


class Forms(unittest.TestCase):
    def test_a_line_that_cannot_stand(self):
        faults = (
            "", " ", "circle", "circle ", "four", "circle 2 0 1", "circle 2 0 1 0 0", "circle 2 0 1 0 ",
            " circle 2 0 1 0", "circle  2 0 1 0", "circle 2  0 1 0", "circle 2 0 1  0", "Circle 2 0 1 0",
            "CIRCLE 2 0 1 0", "circles 2 0 1 0", "circl 2 0 1 0", "2 0 1 0", "circle 02 0 1 0", "circle 2 00 1 0",
            "circle 2 0 01 0", "circle 2 0 1 00", "circle 2 -0 1 0", "circle 2 0 1 -0", "circle +2 0 1 0",
            "circle 2 0 +1 0", "circle 2 +0 1 0", "circle 2 0 1 --0", "circle 2 0 --1 0", "circle 2 0 1- 0",
            "circle 2 0 - 0", "circle 2 0 -01 0", "circle 2 0 1.0 0", "circle 2 0 1_0 0", "circle 2 0 a 0",
            "circle 2 0 0x1 0", "circle\t2 0 1 0", "circle 2 0 1\t0", "circle 2 0 1 0\t", "circle 2 0 1 0\r",
            "circle 2,0,1,0", "four 2 0 1 0", "end", "circle 2 0 1 0 circle", "circle 2 0 1 \u0660",
            "circle 2 0 \u00b2 0", "circle 2 0 1\u00a00", "circle \uff12 0 1 0",
        )
        lines = TEXT.split("\n")
        for at in range(1, 5):
            for fault in faults:
                changed = lines[:at] + [fault] + lines[at + 1:]
                self.assertEqual(line_of("\n".join(changed)), at + 1, repr(fault))
                added = lines[:at] + [fault] + lines[at:]
                self.assertEqual(line_of("\n".join(added)), at + 1, repr(fault))

    def test_the_first_line(self):
        rest = TEXT[len("four"):]
        for first in ("", " four", "four ", "Four", "FOUR", "fours", "fou", "circle", "circle 2 0 1 0", "four four",
                      "four 4", "four\t", "four\r", "word", "circles"):
            self.assertEqual(line_of(first + rest), 1, repr(first))
            self.assertEqual(line_of(first), 1, repr(first))
        self.assertEqual(line_of(rest[1:]), 1)
        self.assertEqual(line_of("\n" + TEXT), 1)

    def test_a_second_first_line(self):
        self.assertEqual(line_of("four\n" + TEXT), 2)
        self.assertEqual(line_of(TEXT + "\nfour"), 6)
        self.assertEqual(line_of(TEXT + "\n" + TEXT), 6)

    def test_ends(self):
        self.assertEqual(line_of(""), 1)
        self.assertEqual(line_of("\n"), 1)
        self.assertEqual(line_of("four\n"), 2)
        self.assertEqual(line_of(TEXT + "\n"), 6)
        self.assertEqual(line_of(TEXT + "\n\n"), 6)
        self.assertEqual(line_of(TEXT + " "), 5)
        self.assertEqual(line_of(TEXT.replace("\n", "\r\n")), 1)
        self.assertEqual(line_of(TEXT.replace("\n", "\r")), 1)
        self.assertEqual(line_of(TEXT.replace("\n", "\f")), 1)
        self.assertEqual(line_of(TEXT.replace("\n", "\n\n")), 2)

    def test_the_first_faulty_line_counts(self):
        lines = TEXT.split("\n")
        for first in range(5):
            for second in range(first + 1, 5):
                changed = list(lines)
                changed[first] = "circle 1 2"
                changed[second] = ""
                self.assertEqual(line_of("\n".join(changed)), first + 1)

    def test_the_form_comes_ahead_of_circles_and_fours(self):
        self.assertEqual(line_of("four\ncircle 1 1 1 2\ncircle"), 3)
        self.assertEqual(line_of("four\ncircle 1 1 1 2\ncircle 1 1 1 2\ncircle 1 1 1 2\ncircle 1 1 1 2\ncircle"), 6)
        self.assertEqual(line_of("four\n" + "circle 1 1 1 1\n" * 7), 9)

    def test_digits(self):
        for sign in ("", "-"):
            for figure in "19":
                longest = sign + figure * 200
                text = TEXT.replace("circle 2 0 -1 0", "circle 2 0 -1 " + longest)
                self.assertIs(error_of(parse_four, text).__class__, InvalidCircle)
                self.assertEqual(line_of(text.replace(longest, longest + "0")), 4)
                self.assertEqual(line_of(text.replace(longest, longest + "0" * 9000)), 4)
                self.assertEqual(line_of(text.replace(longest, sign + "0" + longest[1:])), 4)

    def test_two_hundred_digits_that_are_a_four(self):
        steps = -10 ** 99
        four = moved_far(bugeye(), steps)
        self.assertEqual(max(len(str(abs(part))) for circle in four.circles for part in circle), 199)
        self.assertEqual(parse_four(format_four(four)).circles, four.circles)
        for many, figures in ((2 * 10 ** 99, 200), (6 * 10 ** 99, 201)):
            four = moved_far(bugeye(), many)
            self.assertEqual(max(len(str(abs(part))) for circle in four.circles for part in circle), figures)
            error = error_of(parse_four, format_four(four))
            self.assertIs(error.__class__, None.__class__ if figures == 200 else InvalidNotation)
        self.assertEqual(error.line, 5)


class RightForms(unittest.TestCase):
    def test_number_of_circles(self):
        circle = "\ncircle 2 0 1 0"
        for many in (0, 1, 2, 3, 5, 6, 50):
            self.assertIs(error_of(parse_four, "four" + many * circle).__class__, InvalidFour, many)
        none = "\ncircle 1 1 1 2"
        for many in (1, 3, 5):
            self.assertIs(error_of(parse_four, "four" + many * none).__class__, InvalidFour, many)
        self.assertIs(error_of(parse_four, TEXT + circle).__class__, InvalidFour)

    def test_no_circles(self):
        lines = TEXT.split("\n")
        for at in range(1, 5):
            changed = lines[:at] + ["circle 0 0 0 0"] + lines[at + 1:]
            self.assertIs(error_of(parse_four, "\n".join(changed)).__class__, InvalidCircle)

    def test_circles_that_do_not_touch(self):
        circle = "\ncircle 2 0 1 0"
        self.assertIs(error_of(parse_four, "four" + 4 * circle).__class__, InvalidFour)
        opposites = "four\ncircle 1 -1 0 0\ncircle -2 0 -1 0\ncircle -2 0 1 0\ncircle -3 -1 0 -2"
        self.assertIs(error_of(parse_four, opposites).__class__, InvalidFour)
        self.assertIs(error_of(parse_four, "four" + 3 * circle + "\ncircle 1 1 1 2").__class__, InvalidCircle)

    def test_orders_are_kept(self):
        lines = TEXT.split("\n")
        text = "\n".join([lines[0]] + lines[:0:-1])
        self.assertEqual(parse_four(text).circles, BUGEYE[::-1])
        self.assertEqual(format_four(parse_four(text)), text)


if __name__ == "__main__":
    unittest.main()
