import unittest

from fourtouch.addresses import absence, address_of, is_there
from fourtouch.circles import opposite
from fourtouch.errors import InvalidCircle, InvalidNotation, InvalidPaper, InvalidWord
from fourtouch.fours import Four
from fourtouch.roots import check_heap_paper, heap_paper
from fourtouch.texts import (
    check_heap_text, check_place_text, circles_text, heap_text, parse_circles, parse_heap, parse_word, place_text,
    word_text,
)
from tests.helper import (
    BUGEYE, LONG_WORD, NEGATIVE_ROOTS, ROOTS, bugeye, error_of, great_root, heap_circles, laid, laid_circle,
    reduced_up_to, strip, walked, words_up_to,
)
from tests.test_addresses import strays

NO_CIRCLES = ((3, 1, 0, 3), (1, 1, 1, 2), (0, 0, 0, 0), (3, 1, 0), (), [3, 1, 0, 2, 0])
NO_WORDS = ((0,), (5,), (1, True), ("1",), [2, None], (3, -1), (1, 2, 44))
# What stands where a number from 1 to 4 should.
NO_PLACES = ("0", "5", "01", "-1", "+1", "a", "12", "1.0", "1,", "\t1", "1\t", "1\r", "\u0661", "\u00b9", "True", "()")


def line_of(error_class, action, *arguments):
    """The line that an error of this class tells."""
    error = error_of(action, *arguments)
    if error.__class__ is not error_class:
        raise AssertionError((arguments, error))
    return error.line


def blanks_too_many(line):
    """The line with one blank more, at each place, and with a tab for each blank."""
    words = line.split(" ")
    rows = [" " + line, line + " ", line + "  "]
    for at in range(1, len(words)):
        rows.append(" ".join(words[:at]) + "  " + " ".join(words[at:]))
        rows.append(" ".join(words[:at]) + "\t" + " ".join(words[at:]))
    return rows


class Examples(unittest.TestCase):
    def test_examples(self):
        four = bugeye()
        self.assertEqual(heap_text(four.exchanged(1), four), "alike\nway 1\nway")
        self.assertEqual(place_text(four, (15, 1, 0, 4)), "there 1 1")
        self.assertEqual(place_text(four, (3, 1, 0, 2)), "there 4")
        self.assertEqual(place_text(four, (1, -1, 0, 0)), "absent")
        self.assertIs(check_place_text(four, (15, 1, 0, 4), "there 1 1 2 2"), True)
        self.assertIs(check_place_text(four, (15, 1, 0, 4), "there 2 1"), False)
        self.assertIs(error_of(parse_word, "word 1 5").__class__, InvalidNotation)


class WordTexts(unittest.TestCase):
    def test_writing_and_reading_back(self):
        for word in words_up_to(4) + [LONG_WORD]:
            for given in (word, list(word)):
                text = word_text(given)
                self.assertEqual(text, " ".join(["word"] + [str(number) for number in word]))
                told = parse_word(text)
                self.assertEqual(told, tuple(word))
                self.assertIs(told.__class__, tuple)
                self.assertTrue(all(number.__class__ is int for number in told))
                self.assertEqual(given, given.__class__(word))
        self.assertEqual(word_text(()), "word")
        self.assertEqual(parse_word("word"), ())
        self.assertEqual(parse_word("word 1 1"), (1, 1))

    def test_no_words(self):
        for word in NO_WORDS:
            self.assertIs(error_of(word_text, word).__class__, InvalidWord)

    def test_the_first_word(self):
        for first in ("", "Word", "WORD", "words", "wor", "way", "circles", "four", "1", "word:", "\tword", "word\t"):
            for rest in ("", " 1", " 1 2 3", " 5"):
                self.assertEqual(line_of(InvalidNotation, parse_word, first + rest), 1, first + rest)
        self.assertEqual(line_of(InvalidNotation, parse_word, ""), 1)
        self.assertEqual(line_of(InvalidNotation, parse_word, "\n"), 1)
        self.assertEqual(line_of(InvalidNotation, parse_word, "\nword 1"), 1)

    def test_blanks(self):
        for line in ("word", "word 1", "word 1 2", "word 4 3 2 1"):
            self.assertIsNone(error_of(parse_word, line))
            for wrong in blanks_too_many(line):
                self.assertEqual(line_of(InvalidNotation, parse_word, wrong), 1, repr(wrong))
                self.assertEqual(line_of(InvalidNotation, parse_word, wrong + "\nword"), 1)

    def test_strange_numbers(self):
        for wrong in NO_PLACES:
            for line in ("word " + wrong, "word 1 " + wrong, "word " + wrong + " 1", "word 1 2 " + wrong + " 3"):
                self.assertEqual(line_of(InvalidNotation, parse_word, line), 1, repr(line))
                self.assertEqual(line_of(InvalidNotation, parse_word, line + "\n"), 1)

    def test_a_line_behind(self):
        for line in ("word", "word 1", "word 1 2 3 4"):
            for behind in ("\n", "\n\n", "\nword", "\n1", "\n ", "\nword 1\nword 2", "\n" + line):
                self.assertEqual(line_of(InvalidNotation, parse_word, line + behind), 2)
        self.assertEqual(line_of(InvalidNotation, parse_word, "word 1\r\n"), 1)
        self.assertEqual(line_of(InvalidNotation, parse_word, "word 1\rword"), 1)


class CircleTexts(unittest.TestCase):
    def test_writing(self):
        self.assertEqual(circles_text([]), "circles")
        self.assertEqual(circles_text(()), "circles")
        self.assertEqual(circles_text([(3, 1, 0, -2)]), "circles\ncircle 3 1 0 -2")
        self.assertEqual(
            circles_text(BUGEYE),
            "circles\ncircle -1 1 0 0\ncircle 2 0 1 0\ncircle 2 0 -1 0\ncircle 3 1 0 2",
        )

    def test_reading_back(self):
        circles = list(heap_circles(bugeye(), 3)) + list(walked(strip(), LONG_WORD[:150]).circles)
        for many in (0, 1, 2, 5, len(circles)):
            for given in (circles[:many], tuple(circles[:many]), [list(circle) for circle in circles[:many]]):
                before = [tuple(circle) for circle in given]
                told = parse_circles(circles_text(given))
                self.assertEqual(told, circles[:many])
                self.assertIs(told.__class__, list)
                self.assertTrue(all(circle.__class__ is tuple for circle in told))
                self.assertEqual([tuple(circle) for circle in given], before)
        self.assertEqual(parse_circles("circles\n" + 3 * "circle 3 1 0 2\n" + "circle 3 1 0 2"), [(3, 1, 0, 2)] * 4)

    def test_great_integers(self):
        circle = laid_circle((-1, 1, 0, 0), 0, 0, 10 ** 6000, 0)
        zeros = "0" * 6000
        nines = "9" * 12000
        self.assertEqual(circles_text([circle]), f"circles\ncircle -1 -{nines} -1{zeros} 0")
        circle = laid_circle((2, 0, 1, 0), 0, 0, 2 * 10 ** 99, 10 ** 99)
        self.assertEqual(len(str(circle[1])), 200)
        self.assertEqual(parse_circles(circles_text([circle, circle])), [circle, circle])
        circle = laid_circle((2, 0, 1, 0), 0, 0, 9 * 10 ** 99, 10 ** 99)
        self.assertEqual(len(str(circle[1])), 201)
        self.assertEqual(line_of(InvalidNotation, parse_circles, circles_text([BUGEYE[0], circle])), 3)

    def test_new_lists(self):
        text = circles_text(BUGEYE)
        told = parse_circles(text)
        told.pop()
        self.assertEqual(parse_circles(text), list(BUGEYE))

    def test_no_circles_to_write(self):
        for wrong in NO_CIRCLES:
            for circles in ([wrong], [BUGEYE[0], wrong], [wrong, BUGEYE[0]], (wrong, wrong)):
                self.assertIs(error_of(circles_text, circles).__class__, InvalidCircle)

    def test_the_first_word(self):
        for first in ("", "circle", "Circles", "CIRCLES", "circless", "circles 4", "circles ", " circles", "four",
                      "word", "circles\t", "circle 3 1 0 2"):
            for rest in ("", "\ncircle 3 1 0 2", "\n"):
                self.assertEqual(line_of(InvalidNotation, parse_circles, first + rest), 1, first + rest)

    def test_lines_that_cannot_stand(self):
        line = "circle 3 1 0 -2"
        faults = blanks_too_many(line) + [
            "", " ", "circle", "circle 3 1 0", "circle 3 1 0 -2 0", "3 1 0 -2", "Circle 3 1 0 -2", "circles",
            "circles 3 1 0 -2", "end", "circle 03 1 0 -2", "circle 3 +1 0 -2", "circle 3 1 -0 -2", "circle 3 1 00 -2",
            "circle 3 1 0 --2", "circle 3 1 0 -", "circle 3 1 0 2.0", "circle 3 1 a -2", "circle 3 1 0 \u0662",
            "circle 3 1 0 -2\r", "word 1", "circle 3 1 0 " + "1" * 201, "circle -" + "1" * 201 + " 1 0 -2",
        ]
        for fault in faults:
            for ahead in range(3):
                for behind in range(2):
                    text = "\n".join(["circles"] + [line] * ahead + [fault] + [line] * behind)
                    self.assertEqual(line_of(InvalidNotation, parse_circles, text), ahead + 2, repr(fault))
        self.assertEqual(line_of(InvalidNotation, parse_circles, "circles\n"), 2)
        self.assertEqual(line_of(InvalidNotation, parse_circles, "circles\n" + line + "\n"), 3)

    def test_no_circle_behind_a_right_form(self):
        for wrong in ("circle 1 1 1 2", "circle 0 0 0 0", "circle 3 1 0 " + "1" * 200, "circle 3 1 0 -" + "9" * 200):
            for text in ("circles\n" + wrong, "circles\ncircle 3 1 0 2\n" + wrong, "circles\n" + wrong + "\n" + wrong,
                         "circles\n" + wrong + "\ncircle 3 1 0 2"):
                self.assertIs(error_of(parse_circles, text).__class__, InvalidCircle)
                self.assertEqual(line_of(InvalidNotation, parse_circles, text + "\nx"), text.count("\n") + 2)
                ahead = text.replace("circles", "circles\nx")
                self.assertEqual(line_of(InvalidNotation, parse_circles, ahead), 2)


class HeapTexts(unittest.TestCase):
    def test_writing_and_reading_back(self):
        for at, root in enumerate(ROOTS):
            for word, other_word in (((), ()), ((1, 2, 3), ()), ((), (4, 2)), ((3, 1, 2), (4, 1, 4))):
                one = walked(Four(root), word)
                same = laid(walked(Four(root), other_word), 1, 1, at, 5)
                other = walked(Four(ROOTS[at - 1]), other_word)
                for first, second in ((one, same), (one, other), (other, one), (one, one)):
                    paper = heap_paper(first, second)
                    text = heap_text(first, second)
                    ways = [" ".join(["way"] + [str(number) for number in way]) for way in paper[1:]]
                    self.assertEqual(text, "\n".join([paper[0]] + ways))
                    self.assertEqual(parse_heap(text), paper)
                    self.assertIs(check_heap_text(first, second, text), True)
                self.assertEqual(heap_text(one, same).split("\n")[0], "alike")
                self.assertEqual(heap_text(one, other).split("\n")[0], "unlike")

    def test_empty_ways(self):
        self.assertEqual(heap_text(bugeye(), bugeye()), "alike\nway\nway")
        self.assertEqual(heap_text(bugeye(), strip()), "unlike\nway\nway")
        self.assertEqual(parse_heap("unlike\nway\nway"), ("unlike", (), ()))
        self.assertEqual(heap_text(strip().exchanged(1), bugeye()), "unlike\nway 1\nway")

    def test_long_ways(self):
        four = walked(bugeye(), LONG_WORD)
        text = heap_text(strip(), four)
        self.assertEqual(parse_heap(text), ("unlike", (), LONG_WORD[::-1]))
        self.assertIs(check_heap_text(strip(), four, text), True)

    def test_what_parsing_tells(self):
        told = parse_heap("alike\nway 1 1 2\nway 4")
        self.assertEqual(told, ("alike", (1, 1, 2), (4,)))
        self.assertIs(told.__class__, tuple)
        self.assertTrue(all(way.__class__ is tuple for way in told[1:]))

    def assert_line(self, text, line):
        self.assertEqual(line_of(InvalidPaper, parse_heap, text), line, repr(text))
        # The form comes first, whatever the fours are.
        for one, other in ((bugeye(), bugeye()), (bugeye(), strip())):
            self.assertEqual(line_of(InvalidPaper, check_heap_text, one, other, text), line)

    def test_the_first_line(self):
        for first in ("", " ", "Alike", "ALIKE", "unalike", "alike ", " alike", "unlike ", "alike 1", "same", "way",
                      "way 1", "alike\t", "alike\r", "there 1", "absent"):
            for rest in ("", "\nway\nway", "\nway 1\nway 2", "\n", "\nway\nway\nway"):
                self.assert_line(first + rest, 1)

    def test_ways_left_out(self):
        for word in ("alike", "unlike"):
            self.assert_line(word, 2)
            self.assert_line(word + "\nway", 3)
            self.assert_line(word + "\nway 1 2", 3)

    def test_a_fourth_line(self):
        for word in ("alike", "unlike"):
            for fourth in ("", "way", "way 1", " ", "x", "alike", "way\nway", "\n"):
                self.assert_line(word + "\nway\nway 3\n" + fourth, 4)

    def test_lines_of_ways_that_cannot_stand(self):
        faults = ["", " ", "Way", "ways", "wa", "way:", "word 1", "1", "alike", "x"]
        faults += blanks_too_many("way 1 2") + blanks_too_many("way")
        for wrong in NO_PLACES:
            faults += ["way " + wrong, "way 1 " + wrong, "way " + wrong + " 2"]
        for word in ("alike", "unlike"):
            for fault in faults:
                self.assert_line(word + "\n" + fault, 2)
                self.assert_line(word + "\n" + fault + "\nway", 2)
                self.assert_line(word + "\n" + fault + "\n" + fault, 2)
                self.assert_line(word + "\nway 1\n" + fault, 3)
                self.assert_line(word + "\nway\n" + fault + "\nway\nway", 3)

    def test_checking(self):
        one = walked(Four(NEGATIVE_ROOTS[1]), (1, 2, 3))
        other = walked(Four(NEGATIVE_ROOTS[2]), (4, 1))
        for first, second in ((one, one), (one, other), (other, one), (bugeye(), one), (one, strip())):
            right = heap_paper(first, second)
            for word in ("alike", "unlike"):
                for way in reduced_up_to(3)[::4] + [right[1], right[1] + (1, 1), right[1][:-1], right[2]]:
                    for other_way in (right[2], right[2][:-1], right[2] + (2,), right[2] + (3, 3), right[1], ()):
                        text = "\n".join([word] + [" ".join(["way"] + [str(number) for number in row])
                                                   for row in (way, other_way)])
                        told = check_heap_text(first, second, text)
                        self.assertIs(told, check_heap_paper(first, second, (word, way, other_way)))

    def test_wrong_papers(self):
        one, other = walked(bugeye(), (1, 2)), walked(strip(), (1,))
        self.assertEqual(heap_text(one, other), "unlike\nway 2 1\nway 1")
        for text in ("alike\nway 2 1\nway 1", "unlike\nway 2\nway 1", "unlike\nway 2 1 1\nway 1", "unlike\nway\nway",
                     "unlike\nway 2 1\nway", "unlike\nway 1 2\nway 1", "unlike\nway 1\nway 2 1", "unlike\nway 2 1\nway 1 2"):
            self.assertIs(check_heap_text(one, other, text), False, text)
        for text in ("unlike\nway 2 1\nway 1", "unlike\nway 2 1 3 3\nway 1", "unlike\nway 2 1\nway 1 4 4",
                     "unlike\nway 2 1 4\nway 1"):
            self.assertIs(check_heap_text(one, other, text), True, text)
        self.assertIs(check_heap_text(one, one, "alike\nway\nway"), True)
        self.assertIs(check_heap_text(one, one, "alike\nway 3\nway 4"), False)
        self.assertIs(check_heap_text(one, one, "unlike\nway 2 1\nway 2 1"), False)


class PlaceTexts(unittest.TestCase):
    def test_own_circles(self):
        for root in ROOTS:
            four = walked(Four(root), (3, 1))
            for number in (1, 2, 3, 4):
                self.assertEqual(place_text(four, four.circle(number)), f"there {number}")
                self.assertEqual(place_text(four, list(four.circle(number))), f"there {number}")
                for told in (1, 2, 3, 4):
                    right = check_place_text(four, four.circle(number), f"there {told}")
                    self.assertIs(right, told == number)
                self.assertIs(check_place_text(four, four.circle(number), "absent"), False)

    def test_circles_of_the_heap(self):
        for root in ROOTS[::2]:
            four = walked(Four(root), (2, 4))
            for circle, (word, number) in heap_circles(four, 4).items():
                text = " ".join(["there", str(number)] + [str(place) for place in word])
                self.assertEqual(place_text(four, circle), text)
                self.assertIs(check_place_text(four, circle, text), True)
                self.assertIs(check_place_text(four, list(circle), text), True)
                self.assertEqual(address_of(four, circle), (word, number))
                self.assertIs(check_place_text(four, circle, text + " 1 1"), True)
                self.assertIs(check_place_text(four, circle, "absent" + text[7:]), False)

    def test_each_word_is_right_at_which_the_circle_has_the_number(self):
        four = bugeye()
        circle = walked(four, (1, 2)).circle(2)
        for word in words_up_to(4):
            for number in (1, 2, 3, 4):
                text = " ".join(["there", str(number)] + [str(place) for place in word])
                right = walked(four, word).circle(number) == circle
                self.assertIs(check_place_text(four, circle, text), right, text)

    def test_a_long_address(self):
        four = bugeye()
        circle = walked(four, LONG_WORD).circle(LONG_WORD[-1])
        text = place_text(four, circle)
        self.assertEqual(text, " ".join(["there", str(LONG_WORD[-1])] + [str(place) for place in LONG_WORD]))
        self.assertIs(check_place_text(four, circle, text), True)
        self.assertIs(check_place_text(four, circle, text[:-2]), False)

    def absent_circles(self, four):
        circles = [opposite(circle) for circle in heap_circles(four, 2)] + list(great_root(3).circles)
        circles += [laid_circle(circle, 1, 1, 2, -1) for circle in heap_circles(four, 2)] + strays(four)[::4]
        return [circle for circle in circles if not is_there(four, circle)]

    def test_circles_that_are_absent(self):
        lengths = set()
        for root in ROOTS:
            four = walked(Four(root), (1, 3))
            for circle in self.absent_circles(four):
                word = absence(four, circle)
                lengths.add(len(word))
                text = " ".join(["absent"] + [str(number) for number in word])
                self.assertEqual(place_text(four, circle), text)
                self.assertIs(check_place_text(four, circle, text), True)
                for number in (1, 2, 3, 4):
                    self.assertIs(check_place_text(four, circle, f"{text} {number}"), False)
                    self.assertIs(check_place_text(four, circle, f"there {number}" + text[6:]), False)
                if word:
                    self.assertIs(check_place_text(four, circle, text[:-2]), False)
        self.assertLessEqual({0, 1, 2}, lengths)

    def test_no_circles(self):
        for wrong in NO_CIRCLES:
            self.assertIs(error_of(place_text, bugeye(), wrong).__class__, InvalidCircle)
            for text in ("there 1", "absent", "", "there", "x\ny"):
                self.assertIs(error_of(check_place_text, bugeye(), wrong, text).__class__, InvalidCircle)

    def test_other_forms(self):
        texts = ["", " ", "\n", "there", "there ", "there\n1", "there 1\n", "there 1\nthere 1", "absent\n", "absent\nabsent",
                 "\nabsent", "There 1", "THERE 1", "Absent", "absent:", "absents", "here 1", "1", "1 1", "word 1",
                 "there there 1", "there absent", "absent there", "x", "there 1\r", "absent\r", "there 1\n\n"]
        for line in ("there 1", "there 1 2", "there 4 3 2 1", "absent", "absent 1", "absent 1 2"):
            texts += blanks_too_many(line)
        for wrong in NO_PLACES:
            texts += ["there " + wrong, "there 1 " + wrong, "there " + wrong + " 1", "absent " + wrong,
                      "absent 1 " + wrong]
        for text in texts:
            for circle in (BUGEYE[0], (15, 1, 0, 4), (1, -1, 0, 0), [3, 1, 0, 2]):
                self.assertEqual(line_of(InvalidPaper, check_place_text, bugeye(), circle, text), 1, repr(text))

    def test_arguments_stay_as_they_are(self):
        four, circle = bugeye(), [15, 1, 0, 4]
        place_text(four, circle)
        check_place_text(four, circle, "there 1 1")
        check_place_text(four, circle, "absent 1")
        heap_text(four, four)
        check_heap_text(four, four, "alike\nway\nway")
        self.assertEqual(four.circles, BUGEYE)
        self.assertEqual(circle, [15, 1, 0, 4])


if __name__ == "__main__":
    unittest.main()
