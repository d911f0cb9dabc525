"""What holds over the whole program: nothing that is handed in is changed, and lists are new ones."""

import unittest
from importlib import import_module

from fourtouch.catalogue import Catalogue
from fourtouch.fours import Four
from fourtouch.session import Session
from tests.helper import BUGEYE, NEGATIVE_ROOTS, STRIP
from tests.test_form import INTERFACE

# What each function is called with; a list stands wherever one may be handed in, and F and G stand for fours.
F, G = "<f>", "<g>"
CIRCLE, OTHER, ABSENT = [15, 1, 0, 4], [3, 1, 0, 2], [1, -1, 0, 0]
POINT = [[0, 4], [2, 8]]
BUGS = [-1, 6, 2, 11]
MATRIX = [[1, 0, 0, 0], [0, 1, 0, 0], [0, 0, 1, 0], [2, 2, 2, -1]]
TEXT = "four\ncircle -1 1 0 0\ncircle 2 0 1 0\ncircle 2 0 -1 0\ncircle 3 1 0 2"
CALLS = {
    "circles": {
        "is_circle": [CIRCLE], "check_circle": [CIRCLE], "is_line": [CIRCLE], "opposite": [CIRCLE],
        "double": [CIRCLE, OTHER], "touch": [CIRCLE, OTHER], "relation": [CIRCLE, OTHER], "fraction": [6, -4],
        "centre": [CIRCLE], "radius": [CIRCLE], "side": [CIRCLE, POINT],
    },
    "fours": {"check_number": [2]},
    "notation": {"format_four": [F], "parse_four": [TEXT]},
    "words": {
        "check_word": [[1, 2, 2]], "is_reduced": [[1, 2, 2]], "reduced": [[1, 2, 2]], "joined": [[1, 2, 2], [1, 3]],
        "backwards": [[1, 2, 2]], "core_of": [[1, 2, 3, 1]], "repeated": [[1, 2, 3, 1], 3], "order_of": [[1, 2, 1]],
        "word_count": [4], "words_of": [3],
    },
    "walks": {
        "four_at": [F, [1, 2, 2]], "fours_along": [F, [1, 2, 2]], "circles_along": [F, [1, 2, 2]],
        "circle_at": [F, [1, 2, 2]], "is_quadruple": [BUGS], "curvatures_at": [BUGS, [1, 2, 2]],
        "curvatures_along": [BUGS, [1, 2, 2]],
    },
    "matrices": {
        "matrix_of": [[1, 2, 2]], "product": [MATRIX, MATRIX], "applied": [MATRIX, [1, 2, 3, 4]], "power": [MATRIX, 3],
        "power_modulo": [MATRIX, 3, 5], "curvatures_after": [BUGS, [1, 2], 3],
        "curvatures_modulo": [BUGS, [1, 2], 3, 10], "word_of": [MATRIX],
    },
    "roots": {
        "way_down": [F], "root_of": [F], "root_curvatures": [F], "alike_heaps": [F, G], "heap_paper": [F, G],
        "check_heap_paper": [F, G, ["unlike", [1, 2], [3, 3]]],
    },
    "addresses": {
        "coordinates": [F, CIRCLE], "address_of": [F, CIRCLE], "is_there": [F, ABSENT], "same_heap": [F, G],
        "word_between": [F, F], "absence": [F, ABSENT], "check_absence": [F, ABSENT, [1, 2]],
    },
    "touching": {
        "circle_by": [F, 1, [-2, -1]], "pair_of": [F, 1, OTHER], "form_of": [F, 1], "curvature_by": [F, 1, [-2, -1]],
        "are_neighbours": [[-2, -1], [1, 1]], "four_by": [F, 1, [-2, -1], [1, 1]],
        "common_neighbours": [[-2, -1], [1, 1]],
    },
    "around": {
        "pairs_to": [F, 1, 20], "least_around": [F, 1], "chain": [[-2, -5], [1, 0]], "steps_between": [[-2, -5], [1, 0]],
        "is_chain": [[[-2, -5], [-1, -2], [0, 1]]],
    },
    "names": {"is_name": ["f"]},
    "lists": {
        "circles_up_to": [F, 20], "curvatures_up_to": [F, 20], "circles_of": [F, 6], "curvature_behind": [F, 6],
        "first_circles": [F, 7], "neighbours_of": [F, OTHER, 20],
        "covers": [F, [[2, 0, -1, 0], [-1, 1, 0, 0], [2, 0, 1, 0]]],
    },
    "catalogue": {"decide": ["circles", [F], 6]},
    "commands": {
        "split_words": [" a  b "], "is_number": ["17"], "word_of": [["1", "2"]], "is_command": [["walk", "f", "1"]],
    },
    "texts": {
        "word_text": [[1, 2]], "circles_text": [[CIRCLE, OTHER]], "parse_word": ["word 1 2"],
        "parse_circles": ["circles\ncircle 3 1 0 2\ncircle 3 1 0 -2"], "heap_text": [F, G],
        "parse_heap": ["alike\nway 1\nway"], "check_heap_text": [F, G, "unlike\nway\nway"],
        "place_text": [F, CIRCLE], "check_place_text": [F, CIRCLE, "there 1 1"],
    },
    "moves": {
        "moved": [F, 1, 2], "turned": [F, 3], "mirrored": [F], "put": [F, [1, 3, 2, 5]], "imaged": [F],
        "finer": [F, 1], "coarser": [F, 1], "way_between": [F, F],
    },
    "remainders": {
        "closed_list": [BUGS, 8], "check_closed": [BUGS, 2, [[1, 0, 0, 1], [0, 0, 1, 1]]], "taken": [BUGS, 8],
        "never": [BUGS, 8], "witness": [BUGS, 8, 2], "check_witness": [BUGS, 8, 2, [1, 2]],
        "shows_never": [BUGS, 2, 1, [[1, 0, 0, 1]]],
    },
    "missing": {
        "root_quadruple": [BUGS], "common_divisor": [BUGS], "standing": [BUGS, 20], "missing": [BUGS, 20],
        "missing_though_taken": [BUGS, 24, 100], "least_missing": [BUGS, 24, 100],
    },
    "points": {
        "touching_point": [OTHER, [2, 0, 1, 0]], "touching_points": [F], "is_touching": [OTHER, [2, 0, 1, 0], POINT],
        "gap_circle": [F, 3], "gap_of": [F, POINT], "way_of": [F, POINT, 4], "place_of": [F, POINT],
        "check_place": [F, POINT, ["inside", [1, 2, 2], 1]],
    },
}


def built(value, fours):
    """A new copy of an argument, in which the fours stand for their names."""
    if isinstance(value, list):
        return [built(part, fours) for part in value]
    return fours.get(value, value) if isinstance(value, str) else value


def frozen(value):
    """A value with all its parts in a form that can be compared, the kinds of the parts included."""
    if isinstance(value, (list, tuple)):
        return (value.__class__.__name__, [frozen(part) for part in value])
    if isinstance(value, Four):
        return ("Four", frozen(value.circles))
    return (value.__class__.__name__, value)


def lists_in(value):
    """All lists in a value."""
    if not isinstance(value, (list, tuple)):
        return []
    return [value] * isinstance(value, list) + [row for part in value for row in lists_in(part)]


class EachFunction(unittest.TestCase):
    def each(self):
        for file, calls in CALLS.items():
            module = import_module("fourtouch." + file)
            for name, arguments in calls.items():
                for fours in ({F: Four(BUGEYE), G: Four(NEGATIVE_ROOTS[1])},
                              {F: Four(BUGEYE).exchanged(1).exchanged(4), G: Four(STRIP)}):
                    yield f"{file}.{name}", getattr(module, name), built(arguments, fours)

    def test_all_are_called(self):
        for file, names in INTERFACE.items():
            if file != "errors":
                functions = {name for name in names if name[0].islower()}
                self.assertEqual(set(CALLS.get(file, ())), functions, file)

    def test_nothing_is_changed(self):
        for name, function, arguments in self.each():
            before = frozen(arguments)
            try:
                function(*arguments)
            except ValueError:
                pass
            self.assertEqual(frozen(arguments), before, name)

    def test_lists_are_new(self):
        lists = set()
        for name, function, arguments in self.each():
            try:
                told = function(*arguments)
            except ValueError:
                continue
            before = frozen(told)
            for row in lists_in(told):
                lists.add(name)
                self.assertFalse(any(row is other for other in lists_in(arguments)), name)
                row.append("x")
                row.reverse()
            self.assertEqual(frozen(function(*arguments)), before, name)
        self.assertLessEqual({"remainders.never", "missing.missing", "points.touching_points", "texts.parse_circles"},
                             lists)

    def test_nothing_is_kept_between_calls(self):
        for name, function, arguments in self.each():
            told = []
            for _ in range(2):
                try:
                    told.append(frozen(function(*arguments)))
                except ValueError as error:
                    told.append((error.__class__, vars(error)))
            self.assertEqual(told[0], told[1], name)


class EachMethod(unittest.TestCase):
    def test_fours(self):
        circles = [list(circle) for circle in BUGEYE]
        four = Four(circles)
        circles[0][0] = 7
        circles.pop()
        self.assertEqual(four.circles, BUGEYE)
        order, circle = [4, 1, 2, 3], [3, 1, 0, 2]
        four.with_order(order)
        four.number_of(circle)
        four.exchanged(2)
        four.ordered()
        four.has_same(Four(STRIP))
        self.assertEqual((order, circle, four.circles), ([4, 1, 2, 3], [3, 1, 0, 2], BUGEYE))

    def test_catalogues(self):
        catalogue = Catalogue()
        names, word = ["f", "f"], [1, 2, 2]
        changes = [("set_four", "f", Four(BUGEYE)), ("walk", "f", word), ("ask", "q", "alike", names, None)]
        catalogue.change_all(changes)
        catalogue.walk("f", word)
        catalogue.ask("r", "same", names)
        self.assertEqual((names, word, len(changes)), (["f", "f"], [1, 2, 2], 3))
        names.append("g")
        word.append(7)
        self.assertEqual(catalogue.answers(), [("q", ("yes",)), ("r", ("yes",))])
        for told in (catalogue.answers(), catalogue.four_names(), catalogue.question_names()):
            told.clear()
        self.assertEqual((catalogue.four_names(), catalogue.question_names()), (["f"], ["q", "r"]))
        self.assertEqual(len(catalogue.answers()), 2)

    def test_sessions(self):
        session = Session()
        told = session.run(TEXT.replace("four", "four f") + "\nend\nfours")
        self.assertEqual(told, ["ok", "ok", "fours: f"])
        told.clear()
        self.assertEqual(session.run("fours"), ["fours: f"])


if __name__ == "__main__":
    unittest.main()
