import unittest
from random import Random

from fourtouch.catalogue import Catalogue
from fourtouch.commands import is_command
from fourtouch.errors import (
    FourtouchError, InvalidQuestion, NameInUse, NothingToRedo, NothingToUndo, UnknownName,
)
from fourtouch.fours import Four
from fourtouch.notation import format_four, parse_four
from fourtouch.session import Session
from tests.helper import BUGEYE, LONG_WORD, ROOTS, STRIP, bugeye, error_of, great_root, laid, strip, walked
from tests.test_catalogue import contents, history

CIRCLES = format_four(bugeye()).split("\n")[1:]
BLOCK = "\n".join(["four f"] + CIRCLES + ["end"])
NO_LINES = (
    "circle", "circle 1 2 3", "circle 2 0 1 0 0", "four", "four f", "circle 2 0 1 01", "circle 2 0 1 -0",
    "circle 2 0 1 +0", "Circle 2 0 1 0", "circle\t2 0 1 0", "circle 2 0 1 0\t", "circle 2 0 1 0\r", "end f", "END",
    "circle 2 0 1 a", "circle 2 0 1 \u0660", "undo", "print f", "circles", "circle 2 0 1 " + "1" * 201,
    "circle 2 0 1 -" + "1" * 201, "word 1 2",
)
STRANGE_LINES = (
    "end", " end ", "end f", "four", "four F", "four f g", "four abcdefghijklm", "circle 2 0 1 0", "walk", "walk f 5",
    "walk f 0", "walk f x", "walk 1", "ask q", "ask q root", "ask q root f f", "ask q circles f", "ask q circles f -1",
    "ask q circles f 01", "ask q other f", "ask q alike f", "ask q same f f f", "undo f", "redo 1", "answers q",
    "answer", "print", "fours f", "questions q", "drop", "remove", "remove f g", "Undo", "UNDO", "\t", "undo\t",
    "line 1: ok", "ok", "#", "-", "\u00a0", "undo\r", "ask q circles f " + "9" * 201,
)


def session_with(*names):
    """A session with fours of some names: the first one bugeye, all others a strip."""
    session = Session()
    for at, name in enumerate(names):
        session.catalogue.set_four(name, strip() if at else bugeye())
    return session


def block_text(name, four):
    return format_four(four).replace("four", "four " + name, 1) + "\nend"


class Beginning(unittest.TestCase):
    def test_example(self):
        session = Session()
        text = (
            "four f\ncircle -1 0 1 0\ncircle 2 0 -1 0\ncircle 2 4 -3 0\ncircle 3 4 -3 2\nend\nwalk f 1\n"
            "ask r root f\nask c circles f 6\nanswers"
        )
        self.assertEqual(session.run(text), ["ok", "ok", "ok", "ok", "ok", "c: circles 9", "r: root -1 2 2 3"])

    def test_a_new_session(self):
        session = Session()
        self.assertIs(session.catalogue.__class__, Catalogue)
        self.assertEqual(contents(session.catalogue), ([], []))
        self.assertEqual((session.catalogue.decided, session.catalogue.kept), (0, 0))
        self.assertEqual(session.run("fours\nquestions\nanswers"), ["fours:", "questions:"])
        self.assertEqual(session.run("undo\nredo"), ["line 1: nothing to undo", "line 2: nothing to redo"])

    def test_sessions_are_apart(self):
        one, other = Session(), Session()
        one.run(BLOCK + "\nfour g")
        self.assertIsNot(one.catalogue, other.catalogue)
        self.assertEqual(other.run("fours\nend"), ["fours:", "line 2: invalid command"])
        self.assertEqual(one.run("end"), ["line 1: invalid four"])

    def test_texts_without_words(self):
        session = Session()
        for text in ("", " ", "\n", "\n\n\n", "   \n \n", " \n"):
            self.assertEqual(session.run(text), [])
            self.assertIs(session.run(text).__class__, list)

    def test_new_lists(self):
        session = session_with("f")
        for text in ("", "fours", "print f", "undo\nredo", "walk f 5"):
            told = session.run(text)
            copy = list(told)
            told.append("x")
            self.assertEqual(session.run(text), copy)


class Lines(unittest.TestCase):
    def test_words_between_spaces(self):
        for text in ("fours", " fours", "fours ", "   fours   ", "\n  fours\n\n   \n"):
            self.assertEqual(session_with("f", "g").run(text), ["fours: f g"])
        for text in ("walk f 1 2", "walk  f   1 2", "   walk f 1     2  "):
            session = session_with("f")
            self.assertEqual(session.run(text), ["ok"])
            self.assertEqual(session.catalogue.four("f").circles, walked(bugeye(), (1, 2)).circles)

    def test_numbers_of_lines(self):
        session = Session()
        text = "\n   \nx\n\nfours\n y \n\n\nundo\n"
        expected = ["line 3: invalid command", "fours:", "line 6: invalid command", "line 9: nothing to undo"]
        for _ in range(3):
            self.assertEqual(session.run(text), expected)
        self.assertEqual(session.run("x"), ["line 1: invalid command"])
        self.assertEqual(session.run("\n" * 12344 + "x"), ["line 12345: invalid command"])

    def test_only_newlines_part_lines(self):
        for other in ("\r", "\f", "\v", "\u2028", "\x85", "\x1c"):
            self.assertEqual(session_with("f").run("fours" + other + "fours"), ["line 1: invalid command"])
        self.assertEqual(session_with("f").run("fours\r\nfours"), ["line 1: invalid command", "fours: f"])

    def test_no_commands(self):
        session = session_with("f", "g")
        session.run("ask q root f")
        before = history(session.catalogue)
        for line in STRANGE_LINES:
            self.assertEqual(session.run(line), ["line 1: invalid command"], repr(line))
            self.assertEqual(session.run("\n" + line + "\nfours"), ["line 2: invalid command", "fours: f g"])
        self.assertEqual(history(session.catalogue), before)
        self.assertEqual((session.catalogue.decided, session.catalogue.kept), (0, 0))

    def test_words_alone_decide_what_is_a_command(self):
        # Nothing is there, but these are commands; others are none though everything is there.
        for line in ("walk f", "remove f", "drop f", "answer f", "print f", "ask q root f", "ask q circles f 10001"):
            self.assertTrue(is_command(line.split()))
            self.assertEqual(Session().run(line), ["line 1: unknown name f"])
        session = session_with("f", "g")
        for line in ("walk f 5", "ask q root f g", "ask q circles f x", "ask q circles f"):
            self.assertEqual(session.run(line), ["line 1: invalid command"])
        self.assertEqual(session.run("ask q circles f 10001"), ["line 1: invalid question"])


class Commands(unittest.TestCase):
    def test_walk(self):
        session = session_with("f", "g")
        four = bugeye()
        for word in ((), (1,), (2, 2), (4, 3, 2, 1), LONG_WORD[:300]):
            self.assertEqual(session.run(" ".join(["walk f"] + [str(number) for number in word])), ["ok"])
            four = walked(four, word)
            self.assertEqual(session.catalogue.four("f").circles, four.circles)
        self.assertEqual(session.catalogue.four("g").circles, STRIP)
        self.assertEqual(session.run("walk h 1"), ["line 1: unknown name h"])

    def test_remove(self):
        session = session_with("f", "g")
        session.run("ask q root f")
        self.assertEqual(session.run("remove f\nremove g\nremove g\nremove q\nfours"), [
            "line 1: name in use f", "ok", "line 3: unknown name g", "line 4: unknown name q", "fours: f",
        ])
        self.assertEqual(session.run("drop q\nremove f\nfours"), ["ok", "ok", "fours:"])

    def test_ask_and_drop(self):
        session = session_with("f", "g")
        self.assertEqual(
            session.run("ask d alike f g\nask c same g f\nask b root g\nask a circles f 17\nquestions"),
            ["ok"] * 4 + ["questions: a b c d"],
        )
        self.assertEqual(
            [session.catalogue.question(name) for name in "abcd"],
            [("circles", ("f",), 17), ("root", ("g",), None), ("same", ("g", "f"), None), ("alike", ("f", "g"), None)],
        )
        self.assertEqual(session.run("ask a root f\ndrop b\ndrop b\ndrop f\nquestions"), [
            "ok", "ok", "line 3: unknown name b", "line 4: unknown name f", "questions: a c d",
        ])
        self.assertEqual(session.catalogue.question("a"), ("root", ("f",), None))

    def test_ask_about_what_is_not_there(self):
        session = session_with("f")
        self.assertEqual(
            session.run("ask q alike f x\nask q alike y x\nask q same z f\nask q root q\nask q circles x 10001"),
            ["line 1: unknown name x", "line 2: unknown name y", "line 3: unknown name z", "line 4: unknown name q",
             "line 5: unknown name x"],
        )
        self.assertEqual(session.run("questions"), ["questions:"])

    def test_numbers_beyond_the_bounds(self):
        session = session_with("f")
        session.run("ask q root f")
        for number in ("10001", "99999", "1" + "0" * 199, "9" * 200):
            self.assertEqual(session.run("ask q circles f " + number), ["line 1: invalid question"])
        self.assertEqual(session.catalogue.question("q"), ("root", ("f",), None))
        for number in ("0", "1", "10000"):
            self.assertEqual(session.run("ask q circles f " + number), ["ok"])
            self.assertEqual(session.catalogue.question("q"), ("circles", ("f",), int(number)))

    def test_answer(self):
        session = session_with("f", "g")
        session.catalogue.set_four("h", laid(bugeye(), 0, 1, 5, 7))
        session.run("ask a alike f h\nask b alike f g\nask c same f f\nask d same f h\nask e root f\nask i root g\n"
                    "ask j circles f 6\nask k circles f 10000\nask l circles g 6\nask m circles f 0")
        expected = {
            "a": "a: yes", "b": "b: no", "c": "c: yes", "d": "d: no", "e": "e: root -1 2 2 3", "i": "i: root 0 0 1 1",
            "j": "j: circles 9", "k": "k: many 2000", "l": "l: strip", "m": "m: circles 1",
        }
        for name, line in expected.items():
            self.assertEqual(session.run("answer " + name), [line])
        self.assertEqual(session.run("answers"), list(expected.values()))
        self.assertEqual(session.run("answer f\nanswer z"), ["line 1: unknown name f", "line 2: unknown name z"])

    def test_each_answer_is_asked_once(self):
        session = session_with("f")
        session.run("ask b root f\nask a root f\nask c circles f 3")
        self.assertEqual(session.run("answers"), ["a: root -1 2 2 3", "b: root -1 2 2 3", "c: circles 5"])
        self.assertEqual((session.catalogue.decided, session.catalogue.kept), (2, 1))
        self.assertEqual(session.run("answer b"), ["b: root -1 2 2 3"])
        self.assertEqual((session.catalogue.decided, session.catalogue.kept), (2, 2))
        session.run("walk f")
        self.assertEqual(len(session.run("answers")), 3)
        self.assertEqual((session.catalogue.decided, session.catalogue.kept), (4, 3))
        self.assertEqual(session.run("answer x"), ["line 1: unknown name x"])
        self.assertEqual((session.catalogue.decided, session.catalogue.kept), (4, 3))

    def test_great_roots(self):
        session = Session()
        session.catalogue.set_four("f", great_root(10 ** 6000))
        session.run("walk f 2 1 3\nask r root f")
        near, far = "1" + "0" * 5999, "1" + "0" * 5999 + "1" + "0" * 5999
        self.assertEqual(session.run("answer r"), [f"r: root -{near}0 {near}1 {far}0 {far}1"])

    def test_print(self):
        session = session_with("f", "g")
        self.assertEqual(session.run("print f"), format_four(bugeye()).split("\n"))
        self.assertEqual(session.run("print g\nprint f"), format_four(strip()).split("\n") + ["four"] + CIRCLES)
        session.run("walk f " + " ".join("1234" * 2000))
        four = walked(bugeye(), (1, 2, 3, 4) * 2000)
        self.assertGreater(max(four.curvatures()), 10 ** 2000)
        self.assertEqual(session.run("print f"), format_four(four).split("\n"))
        self.assertEqual(len(session.run("print f")), 5)
        self.assertEqual(session.run("print h"), ["line 1: unknown name h"])

    def test_lists_of_names(self):
        session = Session()
        for at, name in enumerate(("b", "a10", "a9", "c", "a", "ab")):
            session.catalogue.set_four(name, bugeye())
            session.catalogue.ask("q" + name, "root", [name])
            names = sorted(session.catalogue.four_names())
            self.assertEqual(session.run("fours"), ["fours: " + " ".join(names)])
            self.assertEqual(session.run("questions"), ["questions: " + " ".join("q" + name for name in names)])
            self.assertEqual(len(session.run("answers")), at + 1)
        self.assertEqual(session.run("fours"), ["fours: a a10 a9 ab b c"])
        self.assertEqual([line.split(":")[0] for line in session.run("answers")],
                         ["qa", "qa10", "qa9", "qab", "qb", "qc"])

    def test_undo_and_redo_over_blocks_and_walks(self):
        session = Session()
        session.run(BLOCK + "\nwalk f 1\nwalk f 2\nask q root f")
        self.assertEqual(session.run("undo\nundo\nprint f\nundo\nprint f\nundo\nfours\nundo"), [
            "ok", "ok", *format_four(bugeye().exchanged(1)).split("\n"), "ok", *["four"] + CIRCLES, "ok", "fours:",
            "line 8: nothing to undo",
        ])
        self.assertEqual(session.run("redo\nredo\nredo\nredo\nredo\nanswers\nfours"), [
            "ok", "ok", "ok", "ok", "line 5: nothing to redo", "q: root -1 2 2 3", "fours: f",
        ])
        self.assertEqual(session.catalogue.four("f").circles, walked(bugeye(), (1, 2)).circles)
        self.assertEqual(session.run("undo\nundo\nwalk f 3\nredo"), ["ok", "ok", "ok", "line 4: nothing to redo"])

    def test_names_that_are_words_of_commands(self):
        session = Session()
        self.assertEqual(
            session.run(BLOCK.replace("four f", "four four") + "\nwalk four 1\nask undo alike four four\nanswer undo\n"
                        "fours\nquestions\nask end circles four 6\nanswers\nremove four\ndrop undo\ndrop end\n"
                        "remove four\nfours"),
            ["ok"] * 4 + ["undo: yes", "fours: four", "questions: undo", "ok", "end: circles 9", "undo: yes",
                          "line 14: name in use four", "ok", "ok", "ok", "fours:"],
        )


class Blocks(unittest.TestCase):
    def setUp(self):
        self.session = Session()
        self.session.run(block_text("g", strip()) + "\nask q root g\nundo")
        self.before = history(self.session.catalogue)

    def assert_refused(self, text, line):
        """The text ends in an `end` that answers just this line, nothing is set, and the block is closed."""
        self.assertEqual(self.session.run(text)[-1], line, repr(text))
        self.assertEqual(history(self.session.catalogue), self.before)
        self.assertEqual(self.session.run("end\nfours"), ["line 1: invalid command", "fours: g"])

    def test_right_blocks(self):
        for root in ROOTS:
            four = walked(Four(root), (1, 2, 4))
            session = Session()
            self.assertEqual(session.run(block_text("f", four)), ["ok", "ok"])
            self.assertIs(session.catalogue.four("f").__class__, Four)
            self.assertEqual(session.catalogue.four("f").circles, four.circles)
            self.assertEqual(session.run("print f"), format_four(four).split("\n"))
            self.assertEqual(session.run("undo\nundo"), ["ok", "line 2: nothing to undo"])

    def test_one_answer_at_each_end(self):
        self.assertEqual(self.session.run("four f"), ["ok"])
        for line in CIRCLES:
            self.assertEqual(self.session.run(line), [])
        self.assertEqual(self.session.run("end"), ["ok"])
        self.assertEqual(self.session.catalogue.four("f").circles, BUGEYE)

    def test_spaces(self):
        text = "  four   f  \n" + "\n".join("  " + line.replace(" ", "   ") + " " for line in CIRCLES) + "\n   end  "
        self.assertEqual(self.session.run(text), ["ok", "ok"])
        self.assertEqual(self.session.catalogue.four("f").circles, BUGEYE)

    def test_lines_without_words_are_not_taken(self):
        text = BLOCK.replace("\n", "\n\n   \n")
        self.assertEqual(self.session.run("\n\n" + text + "\n\n"), ["ok", "ok"])
        self.assertEqual(self.session.catalogue.four("f").circles, BUGEYE)
        # The number at the end counts the lines that were taken, the one in front all lines of the text.
        text = "\nfour h\n\n" + CIRCLES[0] + "\n   \n\ncircle 1\n\nend"
        self.before = history(self.session.catalogue)
        self.assertEqual(self.session.run(text), ["ok", "line 9: invalid notation 2"])
        self.assertEqual(history(self.session.catalogue), self.before)

    def test_open_at_the_end_of_a_text(self):
        lines = BLOCK.split("\n")
        for first in range(1, 6):
            for second in range(first, 6):
                session = Session()
                self.assertEqual(session.run("\n".join(lines[:first])), ["ok"])
                self.assertEqual(session.run("\n".join(lines[first:second])), [])
                self.assertEqual(session.run(""), [])
                self.assertEqual(session.catalogue.four_names(), [])
                self.assertEqual(session.run("\n".join(lines[second:] + ["fours"])), ["ok", "fours: f"])
                self.assertEqual(session.catalogue.four("f").circles, BUGEYE)

    def test_numbers_of_lines_in_a_later_call(self):
        self.session.run("\n\nfour f\n" + CIRCLES[0])
        self.assertEqual(self.session.run("\ncircle\n\nend\nx"), ["line 4: invalid notation 2", "line 5: invalid command"])
        self.session.run("four f\ncircle")
        self.assertEqual(self.session.run("end"), ["line 1: invalid notation 1"])

    def test_commands_are_taken_as_lines(self):
        for at in range(5):
            for line in ("undo", "redo", "fours", "answers", "four f", "four h", "walk g 1", "remove g", "print g",
                         "ask a root g", "drop q", "questions", "answer q", "x", "end f", "end end"):
                lines = CIRCLES[:at] + [line] + CIRCLES[at:]
                self.assertEqual(self.session.run("\n".join(["four f"] + lines)), ["ok"])
                self.assertEqual(history(self.session.catalogue), self.before)
                self.assert_refused("end", f"line 1: invalid notation {at + 1}")

    def test_faults_of_the_form_at_each_line(self):
        for at in range(1, 5):
            for fault in NO_LINES:
                changed = list(CIRCLES)
                changed[at - 1] = fault
                self.assert_refused("\n".join(["four f"] + changed + ["end"]), f"line 6: invalid notation {at}")
                added = CIRCLES[:at] + [fault] + CIRCLES[at:]
                self.assert_refused("\n".join(["four f"] + added + ["end"]), f"line 7: invalid notation {at + 1}")

    def test_the_line_four_is_not_counted(self):
        lines = ["circle 13 21 7 -15", "circle -3 -3 -1 3", "circle 4 4 1 -4 1", "circle 12 16 7 -12"]
        self.assert_refused("\n".join(["four q6d"] + lines + ["end"]), "line 6: invalid notation 3")
        self.assert_refused("four a\ncircle 1\nend", "line 3: invalid notation 1")
        # Reading the same text counts all of its lines.
        self.assertEqual(error_of(parse_four, "\n".join(["four"] + lines)).line, 4)
        self.assertEqual(error_of(parse_four, "four\ncircle 1").line, 2)

    def test_the_first_faulty_line_counts(self):
        self.assert_refused("four f\ncircle 1 1 1 2\nx\ncircle\nend", "line 5: invalid notation 2")
        self.assert_refused("four f\nx\n\ny\nend", "line 5: invalid notation 1")

    def test_digits(self):
        for sign in ("", "-"):
            text = "four f\n" + CIRCLES[0] + "\ncircle 2 0 1 " + sign + "1" * 200
            self.assert_refused(text + "\nend", "line 4: invalid four")
            text = "four f\n" + "\n".join(CIRCLES[:3]) + "\ncircle 2 0 1 " + sign + "1" * 200
            self.assert_refused(text + "\nend", "line 6: invalid circle")
            self.assert_refused(text + "1\nend", "line 6: invalid notation 4")
        four = laid(bugeye(), 0, 0, 2 * 10 ** 99, 0)
        self.assertEqual(max(len(str(abs(part))) for circle in four.circles for part in circle), 200)
        self.assertEqual(self.session.run(block_text("f", four)), ["ok", "ok"])
        self.assertEqual(self.session.run("print f"), format_four(four).split("\n"))
        self.before = history(self.session.catalogue)
        four = laid(bugeye(), 0, 0, 6 * 10 ** 99, 0)
        self.assertEqual(self.session.run(block_text("h", four)), ["ok", "line 6: invalid notation 4"])
        self.assertEqual(history(self.session.catalogue), self.before)

    def test_another_number_of_circles(self):
        for many in (0, 1, 2, 3, 5, 20):
            lines = (CIRCLES * 5)[:many]
            self.assert_refused("\n".join(["four f"] + lines + ["end"]), f"line {many + 2}: invalid four")
            none = ["circle 1 1 1 2"] * many
            self.assert_refused("\n".join(["four f"] + none + ["end"]), f"line {many + 2}: invalid four")

    def test_no_circles_and_no_fours(self):
        for at in range(4):
            lines = list(CIRCLES)
            lines[at] = "circle 1 1 1 2"
            self.assert_refused("\n".join(["four f"] + lines + ["end"]), "line 6: invalid circle")
            lines[at] = CIRCLES[at - 1]
            self.assert_refused("\n".join(["four f"] + lines + ["end"]), "line 6: invalid four")
        opposites = "circle 1 -1 0 0\ncircle -2 0 -1 0\ncircle -2 0 1 0\ncircle -3 -1 0 -2"
        self.assert_refused("four f\n" + opposites + "\nend", "line 6: invalid four")

    def test_a_name_in_use(self):
        for four in (bugeye(), strip()):
            self.assert_refused(block_text("g", four), "line 6: name in use g")
        # The four is parsed first, and the name is looked at behind it.
        self.assert_refused("four g\nx\nend", "line 3: invalid notation 1")
        self.assert_refused("four g\nend", "line 2: invalid four")
        lines = ["four g", "circle 1 1 1 2"] + CIRCLES[1:] + ["end"]
        self.assert_refused("\n".join(lines), "line 6: invalid circle")
        self.assertEqual(self.session.run("undo\n" + block_text("g", bugeye())), ["ok", "ok", "ok"])

    def test_the_name_is_looked_at_when_the_block_ends(self):
        self.session.run("four g\n" + "\n".join(CIRCLES))
        self.session.catalogue.remove_four("g")
        self.assertEqual(self.session.run("end"), ["ok"])
        self.assertEqual(self.session.catalogue.four("g").circles, BUGEYE)
        self.session.run("four f\n" + "\n".join(CIRCLES))
        self.session.catalogue.set_four("f", strip())
        self.assertEqual(self.session.run("end"), ["line 1: name in use f"])

    def test_blocks_behind_a_refused_one(self):
        text = "four f\ncircle\nend\n" + BLOCK + "\nfours"
        self.assertEqual(self.session.run(text), ["ok", "line 3: invalid notation 1", "ok", "ok", "fours: f g"])
        self.assertEqual(self.session.catalogue.four("f").circles, BUGEYE)

    def test_the_end_with_spaces_and_with_a_word(self):
        for line in ("end", " end", "end ", "    end   "):
            session = Session()
            self.assertEqual(session.run("\n".join(["four f"] + CIRCLES + [line])), ["ok", "ok"])
        for line in ("end f", "end end", "End", "END", "end.", "end\t", "\tend", "ends"):
            session = Session()
            self.assertEqual(session.run("\n".join(["four f"] + CIRCLES + [line])), ["ok"])
            self.assertEqual(session.run("end"), ["line 1: invalid notation 5"])


class Errors(unittest.TestCase):
    def test_each_error(self):
        session = session_with("f", "g")
        session.run("ask q alike f g")
        told = session.run("\n".join([
            "redo", "walk h 1", "remove f", "remove h", "drop h", "answer h", "print h", "ask q root h",
            "ask q circles f 10001", "four f", *CIRCLES, "end", "four h", "end", "four h", *CIRCLES[:3],
            "circle 0 0 0 0", "end", "four h", "circle", "end", "what", "drop q", "undo", "undo", "undo", "undo", "undo",
        ]))
        self.assertEqual(told, [
            "line 1: nothing to redo", "line 2: unknown name h", "line 3: name in use f", "line 4: unknown name h",
            "line 5: unknown name h", "line 6: unknown name h", "line 7: unknown name h", "line 8: unknown name h",
            "line 9: invalid question", "ok", "line 15: name in use f", "ok", "line 17: invalid four", "ok",
            "line 23: invalid circle", "ok", "line 26: invalid notation 1", "line 27: invalid command",
            "ok", "ok", "ok", "ok", "ok", "line 33: nothing to undo",
        ])

    def test_lines_behind_an_error_are_done(self):
        session = session_with("f")
        told = session.run("x\nwalk f 1\nwalk g 1\nwalk f 2\nask q circles f 99999\nask q root f\nanswer p\nanswer q")
        self.assertEqual(told, [
            "line 1: invalid command", "ok", "line 3: unknown name g", "ok", "line 5: invalid question", "ok",
            "line 7: unknown name p", "q: root -1 2 2 3",
        ])
        self.assertEqual(session.catalogue.four("f").circles, walked(bugeye(), (1, 2)).circles)

    def test_errors_change_nothing(self):
        session = session_with("f", "g")
        session.run("ask q root f\nwalk f 1\nundo")
        before = history(session.catalogue)
        for line in ("walk h 1", "remove f", "remove h", "drop h", "answer h", "print h", "ask q root h",
                     "ask q circles f 10001", "x"):
            told = session.run(line)
            self.assertEqual(len(told), 1)
            self.assertEqual(told[0][:8], "line 1: ")
            self.assertEqual(history(session.catalogue), before)


class Model:
    """What a session does, by the methods of a catalogue; blocks are told whole."""

    def __init__(self):
        self.catalogue = Catalogue()

    def line(self, number, action, *arguments):
        """The lines that an action answers."""
        try:
            told = action(*arguments)
        except UnknownName as error:
            return [f"line {number}: unknown name {error.name}"]
        except NameInUse as error:
            return [f"line {number}: name in use {error.name}"]
        except InvalidQuestion:
            return [f"line {number}: invalid question"]
        except NothingToUndo:
            return [f"line {number}: nothing to undo"]
        except NothingToRedo:
            return [f"line {number}: nothing to redo"]
        return ["ok"] if told is None else told

    def answer(self, name):
        return [" ".join([name + ":"] + [str(part) for part in self.catalogue.answer(name)])]

    def answers(self):
        return [line for name in self.catalogue.question_names() for line in self.answer(name)]


class AgainstACatalogue(unittest.TestCase):
    def turn(self, random, number, model):
        """The text of some lines, the first of them with this number, and what it must answer."""
        catalogue = model.catalogue
        name, four, other = (random.choice("abc") for _ in range(3))
        kind = random.choice(("alike", "same", "root", "circles"))
        most = random.choice((0, 5, 20, 10001))
        word = [random.randint(1, 4) for _ in range(random.randint(0, 4))]
        names = [four, other] if kind in ("alike", "same") else [four]
        told = " ".join(names + [str(most)]) if kind == "circles" else " ".join(names)
        circles = Four(random.choice(ROOTS))
        shown = format_four(circles).replace("four", "four " + name, 1)
        turns = [
            (shown + "\nend", 5, catalogue.set_four, name, circles),
            (" ".join(["walk", four] + [str(place) for place in word]), 0, catalogue.walk, four, word),
            ("remove " + four, 0, catalogue.remove_four, four),
            (f"ask {name} {kind} {told}", 0, catalogue.ask, name, kind, names, most if kind == "circles" else None),
            ("drop " + name, 0, catalogue.drop, name),
            ("undo", 0, catalogue.undo),
            ("redo", 0, catalogue.redo),
            ("answer " + name, 0, model.answer, name),
            ("answers", 0, model.answers),
            ("print " + four, 0, lambda: format_four(catalogue.four(four)).split("\n")),
            ("fours", 0, lambda: [" ".join(["fours:"] + catalogue.four_names())]),
            ("questions", 0, lambda: [" ".join(["questions:"] + catalogue.question_names())]),
        ]
        text, lines, action, *arguments = random.choice(turns)
        opened = ["ok"] if lines else []
        return text, opened + model.line(number + lines, action, *arguments)

    def test_random_turns(self):
        random = Random(65)
        for _ in range(12):
            session, model = Session(), Model()
            for _ in range(30):
                lines, expected = [], []
                for _ in range(random.randint(1, 12)):
                    if random.random() < 0.2:
                        lines.append(random.choice(("", "   ")))
                    text, told = self.turn(random, len(lines) + 1, model)
                    lines += text.split("\n")
                    expected += told
                self.assertEqual(session.run("\n".join(lines)), expected)
                self.assertEqual(contents(session.catalogue), contents(model.catalogue))
                self.assertEqual((session.catalogue.decided, session.catalogue.kept),
                                 (model.catalogue.decided, model.catalogue.kept))
            self.assertEqual(history(session.catalogue), history(model.catalogue))

    def test_a_catalogue_that_is_changed_between_the_lines(self):
        session = Session()
        session.run(BLOCK)
        session.catalogue.walk("f", (3,))
        session.catalogue.ask("q", "root", ["f"])
        self.assertEqual(session.run("print f\nquestions\nundo\nundo\nprint f"), [
            *format_four(bugeye().exchanged(3)).split("\n"), "questions: q", "ok", "ok", "four", *CIRCLES,
        ])
        self.assertIs(error_of(session.catalogue.four, "g").__class__, UnknownName)
        self.assertTrue(issubclass(UnknownName, FourtouchError))


if __name__ == "__main__":
    unittest.main()
