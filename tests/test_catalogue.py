import unittest
from random import Random

from fourtouch.catalogue import Catalogue, decide
from fourtouch.errors import (
    InvalidQuestion, InvalidWord, NameInUse, NothingToRedo, NothingToUndo, UnknownName,
)
from fourtouch.fours import Four
from fourtouch.lists import circles_up_to
from tests.helper import BUGEYE, LONG_WORD, NEGATIVE_ROOTS, ROOTS, STRIPS, bugeye, error_of, laid, strip, walked

NO_WORDS = ((0,), (5,), (1, 2, True), ["1"], [None], [2, -1])
KINDS = {"alike": 2, "same": 2, "root": 1, "circles": 1}
STRANGE_NAMES = ("", " ", "A", "1", "a name", "thirteen letters and more", "\u00e4", "a\nb", "circle", "None")


def small_catalogue():
    """Two fours, f and g, and a question about the first one."""
    catalogue = Catalogue()
    catalogue.set_four("f", bugeye())
    catalogue.set_four("g", strip())
    catalogue.ask("q", "root", ["f"])
    return catalogue


def contents(catalogue):
    """What is defined."""
    fours = [(name, catalogue.four(name).circles) for name in catalogue.four_names()]
    return fours, [(name, catalogue.question(name)) for name in catalogue.question_names()]


def history(catalogue):
    """What is defined there, and behind each undo and each redo; everything is as before afterwards."""
    rows = [contents(catalogue)]
    undone = 0
    while error_of(catalogue.undo) is None:
        undone += 1
        rows.append(contents(catalogue))
    for _ in range(undone):
        catalogue.redo()
    redone = 0
    while error_of(catalogue.redo) is None:
        redone += 1
        rows.append(contents(catalogue))
    for _ in range(redone):
        catalogue.undo()
    return rows, undone, redone


class Model:
    """A catalogue that keeps whole copies of what is defined."""

    def __init__(self):
        self.past, self.now, self.future = [], ({}, {}), []
        self.entries = 0
        self.answers = {}
        self.decided = self.kept = 0

    def change(self, fours, questions):
        self.past.append(self.now)
        self.now = (fours, questions)
        self.future = []

    def make(self, method, *rest):
        """Make a change and return None, or return the error that is due as a tuple."""
        fours, questions = dict(self.now[0]), dict(self.now[1])
        name = rest[0]
        if method == "set_four":
            if name in fours:
                return (NameInUse, name)
            self.entries += 1
            fours[name] = (self.entries, rest[1].circles)
        elif method == "walk":
            if name not in fours:
                return (UnknownName, name)
            if not all(number in (1, 2, 3, 4) and number is not True for number in rest[1]):
                return (InvalidWord, None)
            self.entries += 1
            fours[name] = (self.entries, walked(Four(fours[name][1]), rest[1]).circles)
        elif method == "remove_four":
            if name not in fours:
                return (UnknownName, name)
            if any(name in question[1] for question in questions.values()):
                return (NameInUse, name)
            del fours[name]
        elif method == "ask":
            _, kind, names, most = rest
            unknown = [other for other in names if other not in fours]
            if unknown:
                return (UnknownName, unknown[0])
            numbers = range(10001) if kind == "circles" else [None]
            if KINDS.get(kind) != len(names) or most not in numbers:
                return (InvalidQuestion, None)
            questions[name] = (kind, tuple(names), most)
        else:
            if name not in questions:
                return (UnknownName, name)
            del questions[name]
        self.change(fours, questions)
        return None

    def make_all(self, changes):
        before = (list(self.past), self.now, list(self.future))
        for change in changes:
            error = self.make(*change)
            if error is not None:
                self.past, self.now, self.future = before
                return error
        return None

    def undo(self):
        if not self.past:
            return (NothingToUndo, None)
        self.future.append(self.now)
        self.now = self.past.pop()
        return None

    def redo(self):
        if not self.future:
            return (NothingToRedo, None)
        self.past.append(self.now)
        self.now = self.future.pop()
        return None

    def answer(self, name):
        fours, questions = self.now
        if name not in questions:
            return (UnknownName, name)
        kind, names, most = questions[name]
        key = (kind, tuple(fours[other][0] for other in names), most)
        if key in self.answers:
            self.kept += 1
        else:
            self.decided += 1
            self.answers[key] = decide(kind, [Four(fours[other][1]) for other in names], most)
        return self.answers[key]

    def contents(self):
        fours, questions = self.now
        return [(name, fours[name][1]) for name in sorted(fours)], [(name, questions[name]) for name in sorted(questions)]


class Answers(unittest.TestCase):
    def test_alike_and_same(self):
        for at, root in enumerate(ROOTS):
            one = walked(Four(root), (1, 2))
            near = walked(Four(root), (4, 3, 1)).with_order((3, 1, 2, 4))
            moved = laid(near, at % 2, at % 4, 50 + at, 13)
            other = walked(Four(ROOTS[at - 1]), (2,))
            self.assertEqual(decide("alike", [one, near]), ("yes",))
            self.assertEqual(decide("alike", [one, moved]), ("yes",))
            self.assertEqual(decide("alike", [one, other]), ("no",))
            self.assertEqual(decide("same", [one, near]), ("yes",))
            self.assertEqual(decide("same", (near, one)), ("yes",))
            self.assertEqual(decide("same", [one, moved]), ("no",))
            self.assertEqual(decide("same", [one, other]), ("no",))

    def test_root(self):
        for root in ROOTS:
            for word in ((), (1, 2, 3), LONG_WORD):
                four = walked(Four(root), word)
                self.assertEqual(decide("root", [four]), ("root", *sorted(Four(root).curvatures())))

    def test_circles(self):
        four = bugeye().exchanged(1)
        for most, many in ((0, 1), (1, 1), (2, 3), (3, 5), (6, 9), (11, 13), (14, 17)):
            self.assertEqual(decide("circles", [four], most), ("circles", many))
        for most in (0, 1, 10000):
            for root in STRIPS:
                self.assertEqual(decide("circles", [walked(Four(root), (1, 3))], most), ("strip",))

    def test_many_circles(self):
        counts = {most: decide("circles", [bugeye()], most) for most in range(600, 760)}
        told = [answer[1] for answer in counts.values() if answer[0] == "circles"]
        self.assertLessEqual(max(told), 2000)
        self.assertGreater(max(told), 1900)
        self.assertIn(("many", 2000), counts.values())
        for most in (5000, 10000):
            self.assertEqual(decide("circles", [bugeye()], most), ("many", 2000))
        self.assertEqual(decide("circles", [Four(NEGATIVE_ROOTS[1])], 100)[0], "circles")

    def test_exactly_2000_circles(self):
        four = Four(NEGATIVE_ROOTS[1])
        self.assertEqual(len(circles_up_to(four, 4071)), 2000)
        self.assertEqual(len(circles_up_to(four, 4074, limit=3000)), 2001)
        for most in (4071, 4072, 4073):
            self.assertEqual(decide("circles", [four], most), ("circles", 2000))
        self.assertEqual(decide("circles", [four], 4074), ("many", 2000))

    def test_no_questions(self):
        one, other = bugeye(), strip()
        for kind in ("", "Alike", "circle", "alike ", "roots", "four"):
            for fours in ([], [one], [one, other]):
                for most in (None, 3):
                    self.assertIs(error_of(decide, kind, fours, most).__class__, InvalidQuestion)
        for kind, many in KINDS.items():
            most = 5 if kind == "circles" else None
            for wrong in {0, 1, 2, 3, 4} - {many}:
                self.assertIs(error_of(decide, kind, [one] * wrong, most).__class__, InvalidQuestion)
            self.assertIsNone(error_of(decide, kind, [one] * many, most))
        for kind in ("alike", "same", "root"):
            for most in (0, 1, -1, 10000, 10001):
                self.assertIs(error_of(decide, kind, [one] * KINDS[kind], most).__class__, InvalidQuestion)
        for four in (one, other):
            for most in (None, -1, 10001, 10 ** 40, -10 ** 40):
                self.assertIs(error_of(decide, "circles", [four], most).__class__, InvalidQuestion)
        self.assertIs(error_of(decide, "circles", [one]).__class__, InvalidQuestion)


class Changes(unittest.TestCase):
    def assert_refused(self, catalogue, error_class, name, action, *arguments):
        before = history(catalogue)
        numbers = (catalogue.decided, catalogue.kept)
        error = error_of(action, *arguments)
        self.assertIs(error.__class__, error_class, arguments)
        if name is not None:
            self.assertEqual(error.name, name)
        self.assertEqual(history(catalogue), before)
        self.assertEqual((catalogue.decided, catalogue.kept), numbers)

    def test_nothing_in_it(self):
        catalogue = Catalogue()
        self.assertEqual((catalogue.decided, catalogue.kept), (0, 0))
        self.assertEqual(contents(catalogue), ([], []))
        self.assertEqual(catalogue.answers(), [])
        for action in (catalogue.four, catalogue.question, catalogue.answer, catalogue.drop, catalogue.remove_four):
            self.assertEqual(error_of(action, "f").__class__, UnknownName)
            self.assertEqual(error_of(action, "f").name, "f")
        self.assertIs(error_of(catalogue.undo).__class__, NothingToUndo)
        self.assertIs(error_of(catalogue.redo).__class__, NothingToRedo)

    def test_setting(self):
        catalogue = Catalogue()
        self.assertIsNone(catalogue.set_four("f", bugeye()))
        self.assertIs(catalogue.four("f").__class__, Four)
        self.assertEqual(catalogue.four("f").circles, BUGEYE)
        self.assert_refused(catalogue, NameInUse, "f", catalogue.set_four, "f", strip())
        self.assert_refused(catalogue, NameInUse, "f", catalogue.set_four, "f", bugeye())
        catalogue.undo()
        catalogue.set_four("f", strip())
        self.assertEqual(catalogue.four("f").circles, strip().circles)

    def test_names_of_fours_and_questions_are_apart(self):
        catalogue = small_catalogue()
        catalogue.ask("f", "root", ["g"])
        catalogue.set_four("q", bugeye().exchanged(2))
        self.assertEqual(catalogue.four_names(), ["f", "g", "q"])
        self.assertEqual(catalogue.question_names(), ["f", "q"])
        catalogue.remove_four("q")
        self.assertEqual(catalogue.question("q"), ("root", ("f",), None))
        catalogue.drop("f")
        self.assertEqual(catalogue.four("f").circles, BUGEYE)
        self.assert_refused(catalogue, UnknownName, "q", catalogue.four, "q")
        self.assert_refused(catalogue, UnknownName, "g", catalogue.question, "g")
        self.assert_refused(catalogue, UnknownName, "g", catalogue.answer, "g")

    def test_walking(self):
        catalogue = small_catalogue()
        for word in ((1,), [2, 3], (), [4, 4], (1, 2, 3, 4) * 20):
            before = catalogue.four("f")
            self.assertIsNone(catalogue.walk("f", word))
            self.assertEqual(catalogue.four("f").circles, walked(before, word).circles)
        self.assertEqual(catalogue.four("g").circles, strip().circles)

    def test_walking_is_refused(self):
        catalogue = small_catalogue()
        for word in NO_WORDS:
            self.assert_refused(catalogue, InvalidWord, None, catalogue.walk, "f", word)
            self.assert_refused(catalogue, UnknownName, "q", catalogue.walk, "q", word)
        self.assert_refused(catalogue, UnknownName, "h", catalogue.walk, "h", (1,))
        self.assert_refused(catalogue, UnknownName, "", catalogue.walk, "", ())

    def test_removing(self):
        catalogue = small_catalogue()
        self.assertIsNone(catalogue.remove_four("g"))
        self.assertEqual(catalogue.four_names(), ["f"])
        self.assert_refused(catalogue, UnknownName, "g", catalogue.remove_four, "g")
        self.assert_refused(catalogue, NameInUse, "f", catalogue.remove_four, "f")
        catalogue.set_four("g", bugeye())
        catalogue.ask("q", "alike", ["g", "g"])
        self.assert_refused(catalogue, NameInUse, "g", catalogue.remove_four, "g")
        self.assertIsNone(catalogue.remove_four("f"))
        self.assertIsNone(catalogue.drop("q"))
        self.assertIsNone(catalogue.remove_four("g"))
        self.assertEqual(contents(catalogue), ([], []))

    def test_removing_the_second_four_of_a_question(self):
        catalogue = small_catalogue()
        catalogue.ask("s", "same", ["f", "g"])
        self.assert_refused(catalogue, NameInUse, "g", catalogue.remove_four, "g")
        catalogue.ask("s", "same", ["f", "f"])
        self.assertIsNone(catalogue.remove_four("g"))

    def test_asking(self):
        catalogue = small_catalogue()
        questions = (("alike", ["f", "g"], None), ("same", ["g", "g"], None), ("root", ["g"], None),
                     ("circles", ["f"], 0), ("circles", ["g"], 10000), ("circles", ["f"], 7))
        for at, (kind, names, most) in enumerate(questions):
            self.assertIsNone(catalogue.ask("r", kind, names, most))
            self.assertEqual(catalogue.question("r"), (kind, tuple(names), most))
            self.assertIs(catalogue.question("r")[1].__class__, tuple)
            if most is None:
                catalogue.ask("r" + str(at), kind, names)
                self.assertEqual(catalogue.question("r" + str(at)), (kind, tuple(names), None))
        self.assertEqual(catalogue.question_names(), ["q", "r", "r0", "r1", "r2"])

    def test_asking_is_refused(self):
        catalogue = small_catalogue()
        for name in ("q", "new"):
            for kind in list(KINDS) + ["", "other", "Root"]:
                for names in ([], ["f"], ["f", "g"], ["f", "g", "f"]):
                    for most in (None, 0, 10000, -1, 10001):
                        right_most = most in (0, 10000) if kind == "circles" else most is None
                        if KINDS.get(kind) == len(names) and right_most:
                            continue
                        self.assert_refused(catalogue, InvalidQuestion, None, catalogue.ask, name, kind, names, most)
            for names, first in ((["x"], "x"), (["f", "y"], "y"), (["z", "y"], "z"), (["f", "g", "q"], "q")):
                for kind, most in (("alike", None), ("root", 7), ("circles", -1), ("other", None)):
                    self.assert_refused(catalogue, UnknownName, first, catalogue.ask, name, kind, names, most)

    def test_dropping(self):
        catalogue = small_catalogue()
        self.assert_refused(catalogue, UnknownName, "f", catalogue.drop, "f")
        self.assertIsNone(catalogue.drop("q"))
        self.assert_refused(catalogue, UnknownName, "q", catalogue.drop, "q")
        self.assertEqual(catalogue.question_names(), [])
        self.assertEqual(catalogue.four_names(), ["f", "g"])

    def test_strange_names(self):
        catalogue = Catalogue()
        for name in STRANGE_NAMES:
            catalogue.set_four(name, bugeye())
            catalogue.ask(name, "root", [name])
            catalogue.walk(name, (1,))
        self.assertEqual(catalogue.four_names(), sorted(STRANGE_NAMES))
        self.assertEqual(catalogue.question_names(), sorted(STRANGE_NAMES))
        self.assertEqual([name for name, _ in catalogue.answers()], sorted(STRANGE_NAMES))
        self.assert_refused(catalogue, NameInUse, "", catalogue.remove_four, "")
        for name in STRANGE_NAMES:
            catalogue.drop(name)
            catalogue.remove_four(name)
        self.assertEqual(contents(catalogue), ([], []))

    def test_lists_that_are_changed_later(self):
        catalogue = small_catalogue()
        names, word = ["f", "g"], [1, 2]
        catalogue.ask("a", "alike", names)
        catalogue.walk("f", word)
        changes = [("ask", "b", "same", names, None), ("walk", "g", word), ("set_four", "h", strip())]
        catalogue.change_all(changes)
        before = contents(catalogue)
        names.pop()
        names[0] = "none"
        word.append(3)
        changes.clear()
        self.assertEqual(contents(catalogue), before)
        self.assertEqual(catalogue.question("a"), ("alike", ("f", "g"), None))
        self.assertEqual(catalogue.question("b"), ("same", ("f", "g"), None))
        catalogue.undo()
        catalogue.redo()
        self.assertEqual(contents(catalogue), before)

    def test_new_lists_and_the_same_arguments(self):
        catalogue = small_catalogue()
        names, word = ["f", "g"], [1, 2]
        changes = [("ask", "b", "same", names, None), ("walk", "g", word)]
        catalogue.change_all(changes)
        self.assertEqual(changes, [("ask", "b", "same", ["f", "g"], None), ("walk", "g", [1, 2])])
        for action in (catalogue.four_names, catalogue.question_names, catalogue.answers):
            self.assertIs(action().__class__, list)
            action().clear()
            self.assertNotEqual(action(), [])
        self.assertEqual(catalogue.answers(), [("b", ("no",)), ("q", ("root", -1, 2, 2, 3))])


class UndoAndRedo(unittest.TestCase):
    def test_each_change(self):
        catalogue = small_catalogue()
        catalogue.ask("q", "circles", ["g"], 5)
        catalogue.walk("f", (3, 1))
        catalogue.walk("f", ())
        catalogue.remove_four("f")
        catalogue.drop("q")
        rows, undone, redone = history(catalogue)
        self.assertEqual((undone, redone), (8, 0))
        expected = [
            ([("g", strip().circles)], []),
            ([("g", strip().circles)], [("q", ("circles", ("g",), 5))]),
            ([("f", walked(bugeye(), (3, 1)).circles), ("g", strip().circles)], [("q", ("circles", ("g",), 5))]),
            ([("f", walked(bugeye(), (3, 1)).circles), ("g", strip().circles)], [("q", ("circles", ("g",), 5))]),
            ([("f", BUGEYE), ("g", strip().circles)], [("q", ("circles", ("g",), 5))]),
            ([("f", BUGEYE), ("g", strip().circles)], [("q", ("root", ("f",), None))]),
            ([("f", BUGEYE), ("g", strip().circles)], []),
            ([("f", BUGEYE)], []),
            ([], []),
        ]
        self.assertEqual(rows, expected)

    def test_a_new_change_takes_away_what_can_be_redone(self):
        changes = (
            lambda catalogue: catalogue.set_four("h", bugeye()), lambda catalogue: catalogue.walk("g", ()),
            lambda catalogue: catalogue.remove_four("g"), lambda catalogue: catalogue.ask("p", "root", ["g"]),
            lambda catalogue: catalogue.drop("p"), lambda catalogue: catalogue.change_all([("walk", "f", (1,))]),
        )
        for change in changes:
            catalogue = small_catalogue()
            catalogue.ask("p", "root", ["f"])
            catalogue.walk("f", (1, 2))
            catalogue.walk("f", (3,))
            catalogue.undo()
            catalogue.undo()
            change(catalogue)
            self.assertIs(error_of(catalogue.redo).__class__, NothingToRedo)
            self.assertEqual(history(catalogue)[1:], (5, 0))
            catalogue.undo()
            self.assertEqual(history(catalogue)[1:], (4, 1))
            self.assertEqual(catalogue.four("f").circles, BUGEYE)

    def test_refused_changes_keep_what_can_be_redone(self):
        catalogue = small_catalogue()
        catalogue.undo()
        before = history(catalogue)
        self.assertEqual(before[1:], (2, 1))
        for action, arguments in (
            (catalogue.set_four, ("f", strip())), (catalogue.walk, ("f", (7,))), (catalogue.walk, ("x", (1,))),
            (catalogue.remove_four, ("x",)), (catalogue.drop, ("q",)), (catalogue.ask, ("q", "root", ["f", "g"])),
            (catalogue.change_all, ([("walk", "f", (1,)), ("drop", "q")],)), (catalogue.change_all, ([],)),
        ):
            error_of(action, *arguments)
            self.assertEqual(history(catalogue), before)

    def test_nothing_to_undo_and_redo(self):
        catalogue = Catalogue()
        catalogue.set_four("f", bugeye())
        self.assertIs(error_of(catalogue.redo).__class__, NothingToRedo)
        self.assertEqual(history(catalogue)[1:], (1, 0))
        self.assertIsNone(catalogue.undo())
        self.assertIs(error_of(catalogue.undo).__class__, NothingToUndo)
        self.assertEqual(history(catalogue)[1:], (0, 1))
        self.assertIsNone(catalogue.redo())
        self.assertIs(error_of(catalogue.redo).__class__, NothingToRedo)
        self.assertEqual(catalogue.four_names(), ["f"])

    def test_random_turns_against_a_model(self):
        for seed in range(60):
            random = Random(seed)
            catalogue, model = Catalogue(), Model()
            fours = [bugeye(), strip(), bugeye().exchanged(2), Four(NEGATIVE_ROOTS[1])]

            def change():
                name = random.choice("abc")
                method = random.choice(("set_four", "walk", "remove_four", "ask", "ask", "drop"))
                if method == "set_four":
                    return (method, name, random.choice(fours))
                if method == "walk":
                    return (method, name, random.choice(((), (1,), (2, 3), [4, 1], (1, 1), (5,))))
                if method == "ask":
                    kind = random.choice(("alike", "same", "root", "circles", "circles", "other"))
                    many = KINDS.get(kind, 1) if random.random() < 0.9 else random.randrange(4)
                    names = [random.choice("abc") for _ in range(many)]
                    most = random.choice((0, 6, 30, 10001)) if (kind == "circles") == (random.random() < 0.9) else None
                    return (method, random.choice("pqr"), kind, names, most)
                return (method, random.choice("abc" if method == "remove_four" else "pqr"))

            for _ in range(120):
                turn = random.random()
                if turn < 0.55:
                    method, *rest = change()
                    expected = model.make(method, *rest)
                    error = error_of(getattr(catalogue, method), *rest)
                elif turn < 0.65:
                    changes = [change() for _ in range(random.randrange(4))]
                    expected = model.make_all(changes)
                    error = error_of(catalogue.change_all, changes)
                elif turn < 0.8:
                    expected, error = model.undo(), error_of(catalogue.undo)
                else:
                    expected, error = model.redo(), error_of(catalogue.redo)
                if expected is None:
                    self.assertIsNone(error)
                else:
                    self.assertIs(error.__class__, expected[0])
                    if expected[1] is not None:
                        self.assertEqual(error.name, expected[1])
                self.assertEqual(contents(catalogue), model.contents())
                if random.random() < 0.3:
                    for name in catalogue.question_names():
                        self.assertEqual(catalogue.answer(name), model.answer(name))
                self.assertEqual((catalogue.decided, catalogue.kept), (model.decided, model.kept))


class SeveralChanges(unittest.TestCase):
    CHANGES = [
        ("set_four", "h", Four(NEGATIVE_ROOTS[2])), ("walk", "h", [1, 2]), ("ask", "p", "circles", ["h"], 30),
        ("ask", "q", "alike", ["f", "h"], None), ("drop", "p"), ("remove_four", "g"), ("walk", "f", ()),
    ]

    def test_whole(self):
        catalogue = small_catalogue()
        self.assertIsNone(catalogue.change_all(self.CHANGES))
        other = small_catalogue()
        for method, *rest in self.CHANGES:
            getattr(other, method)(*rest)
        self.assertEqual(history(catalogue), history(other))
        self.assertEqual(history(catalogue)[1:], (3 + len(self.CHANGES), 0))
        for _ in self.CHANGES:
            catalogue.undo()
        self.assertEqual(contents(catalogue), contents(small_catalogue()))
        self.assertEqual(history(catalogue)[1:], (3, len(self.CHANGES)))

    def test_refused(self):
        wrong = (
            (("set_four", "f", strip()), NameInUse, "f"), (("walk", "f", (1, 5)), InvalidWord, None),
            (("walk", "x", (1, 5)), UnknownName, "x"), (("remove_four", "f"), NameInUse, "f"),
            (("remove_four", "x"), UnknownName, "x"), (("ask", "r", "root", ["y"], None), UnknownName, "y"),
            (("ask", "q", "circles", ["f"], None), InvalidQuestion, None), (("drop", "x"), UnknownName, "x"),
        )
        for at in range(len(self.CHANGES) + 1):
            for change, error_class, name in wrong:
                for undone in (0, 2):
                    catalogue = small_catalogue()
                    catalogue.walk("f", (1,))
                    catalogue.ask("r", "root", ["f"])
                    for _ in range(undone):
                        catalogue.undo()
                    before = history(catalogue)
                    self.assertEqual(before[1:], (5 - undone, undone))
                    error = error_of(catalogue.change_all, self.CHANGES[:at] + [change] + self.CHANGES[at:])
                    self.assertIs(error.__class__, error_class)
                    if name is not None:
                        self.assertEqual(error.name, name)
                    self.assertEqual(history(catalogue), before)

    def test_what_a_refused_list_brings_back(self):
        # The entries that were there are there again, so that no answer is worked out anew.
        catalogue = small_catalogue()
        catalogue.answer("q")
        wrong = [("walk", "f", ()), ("drop", "q"), ("remove_four", "f"), ("set_four", "f", bugeye()), ("drop", "q")]
        self.assertIs(error_of(catalogue.change_all, wrong).__class__, UnknownName)
        self.assertEqual(catalogue.answer("q"), ("root", -1, 2, 2, 3))
        self.assertEqual((catalogue.decided, catalogue.kept), (1, 1))

    def test_none(self):
        catalogue = small_catalogue()
        catalogue.undo()
        before = history(catalogue)
        self.assertIsNone(catalogue.change_all([]))
        self.assertEqual(history(catalogue), before)
        self.assertIsNone(catalogue.redo())

    def test_one_after_another(self):
        # Each of them finds what those before it have made, also where it alone would be refused.
        catalogue = Catalogue()
        catalogue.change_all([("set_four", "a", bugeye()), ("ask", "a", "same", ["a", "a"], None), ("drop", "a"),
                              ("remove_four", "a"), ("set_four", "a", strip()), ("walk", "a", (1,))])
        self.assertEqual(contents(catalogue), ([("a", strip().exchanged(1).circles)], []))
        self.assertEqual(history(catalogue)[1:], (6, 0))


class KeptAnswers(unittest.TestCase):
    def assert_numbers(self, catalogue, decided, kept):
        self.assertEqual((catalogue.decided, catalogue.kept), (decided, kept))

    def test_asked_again(self):
        catalogue = small_catalogue()
        self.assert_numbers(catalogue, 0, 0)
        for kept in range(4):
            self.assertEqual(catalogue.answer("q"), ("root", -1, 2, 2, 3))
            self.assert_numbers(catalogue, 1, kept)

    def test_the_same_question_under_another_name(self):
        catalogue = small_catalogue()
        catalogue.answer("q")
        for kept, name in enumerate(STRANGE_NAMES + ("other",), start=1):
            catalogue.ask(name, "root", ["f"])
            self.assertEqual(catalogue.answer(name), ("root", -1, 2, 2, 3))
            self.assert_numbers(catalogue, 1, kept)

    def test_other_questions(self):
        catalogue = small_catalogue()
        catalogue.ask("a", "alike", ["f", "g"])
        catalogue.ask("b", "alike", ["g", "f"])
        catalogue.ask("c", "same", ["f", "g"])
        catalogue.ask("d", "circles", ["f"], 6)
        catalogue.ask("e", "circles", ["f"], 7)
        catalogue.ask("g", "root", ["g"])
        expected = [("a", ("no",)), ("b", ("no",)), ("c", ("no",)), ("d", ("circles", 9)), ("e", ("circles", 9)),
                    ("g", ("root", 0, 0, 1, 1)), ("q", ("root", -1, 2, 2, 3))]
        self.assertEqual(catalogue.answers(), expected)
        self.assert_numbers(catalogue, 7, 0)
        self.assertEqual(catalogue.answers(), expected)
        self.assert_numbers(catalogue, 7, 7)

    def test_another_four_with_the_same_circles(self):
        catalogue = small_catalogue()
        catalogue.answer("q")
        catalogue.set_four("h", catalogue.four("f"))
        catalogue.ask("r", "root", ["h"])
        catalogue.answer("r")
        self.assert_numbers(catalogue, 2, 0)

    def test_walks_make_new_entries(self):
        catalogue = small_catalogue()
        catalogue.answer("q")
        for decided, word in enumerate(((), (1,), (1,), [], (2, 2)), start=2):
            catalogue.walk("f", word)
            self.assertEqual(catalogue.answer("q"), ("root", -1, 2, 2, 3))
            self.assert_numbers(catalogue, decided, 0)
        catalogue.walk("g", ())
        catalogue.answer("q")
        self.assert_numbers(catalogue, 6, 1)

    def test_undo_and_redo_bring_entries_back(self):
        catalogue = small_catalogue()
        catalogue.answer("q")
        catalogue.walk("f", ())
        catalogue.undo()
        catalogue.answer("q")
        self.assert_numbers(catalogue, 1, 1)
        catalogue.redo()
        catalogue.answer("q")
        self.assert_numbers(catalogue, 2, 1)
        catalogue.undo()
        catalogue.redo()
        catalogue.answer("q")
        self.assert_numbers(catalogue, 2, 2)
        catalogue.undo()
        catalogue.answer("q")
        self.assert_numbers(catalogue, 2, 3)

    def test_removed_and_brought_back(self):
        catalogue = small_catalogue()
        catalogue.answer("q")
        catalogue.drop("q")
        catalogue.remove_four("f")
        catalogue.undo()
        catalogue.undo()
        catalogue.answer("q")
        self.assert_numbers(catalogue, 1, 1)
        catalogue.redo()
        catalogue.redo()
        catalogue.set_four("f", bugeye())
        catalogue.ask("q", "root", ["f"])
        catalogue.answer("q")
        self.assert_numbers(catalogue, 2, 1)

    def test_entries_of_changes_that_are_lost(self):
        # A walk that is taken back and then replaced by another one has an entry of its own.
        catalogue = small_catalogue()
        catalogue.walk("f", (1,))
        catalogue.ask("c", "circles", ["f"], 6)
        catalogue.answer("c")
        catalogue.undo()
        catalogue.undo()
        catalogue.walk("f", (1,))
        catalogue.ask("c", "circles", ["f"], 6)
        catalogue.answer("c")
        self.assert_numbers(catalogue, 2, 0)

    def test_unknown_names_count_for_nothing(self):
        catalogue = small_catalogue()
        for name in ("", "f", "x", "q "):
            error = error_of(catalogue.answer, name)
            self.assertIs(error.__class__, UnknownName)
            self.assertEqual(error.name, name)
        self.assert_numbers(catalogue, 0, 0)

    def test_every_kind_of_answer_is_kept(self):
        catalogue = small_catalogue()
        catalogue.ask("many", "circles", ["f"], 10000)
        catalogue.ask("strip", "circles", ["g"], 3)
        catalogue.ask("yes", "same", ["f", "f"])
        expected = [("many", ("many", 2000)), ("q", ("root", -1, 2, 2, 3)), ("strip", ("strip",)), ("yes", ("yes",))]
        for kept in (0, 4, 8):
            self.assertEqual(catalogue.answers(), expected)
            self.assert_numbers(catalogue, 4, kept)

    def test_catalogues_are_apart(self):
        one, other = small_catalogue(), small_catalogue()
        one.answer("q")
        one.walk("f", (1,))
        self.assert_numbers(other, 0, 0)
        self.assertEqual(other.four("f").circles, BUGEYE)


if __name__ == "__main__":
    unittest.main()
