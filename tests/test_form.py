"""The form of the package: the interface stands where it belongs, and the simple rules of the language hold."""

import ast
import builtins
import inspect
import unittest
from importlib import import_module
from pathlib import Path

PACKAGE = Path(__file__).resolve().parent.parent / "fourtouch"

# For each file its functions, and its classes with their methods, each with its parameters.
INTERFACE = {
    "circles": {
        "is_circle": "(circle)", "check_circle": "(circle)", "is_line": "(circle)", "opposite": "(circle)",
        "double": "(one, other)", "touch": "(one, other)", "relation": "(one, other)", "fraction": "(number, other)",
        "centre": "(circle)", "radius": "(circle)", "side": "(circle, point)",
    },
    "fours": {
        "check_number": "(number)", "Four": "(circles)", "Four.curvatures": "(self)", "Four.circle": "(self, number)",
        "Four.number_of": "(self, circle)", "Four.other": "(self, number)", "Four.exchanged": "(self, number)",
        "Four.is_root": "(self)", "Four.is_strip": "(self)", "Four.with_order": "(self, order)",
        "Four.ordered": "(self)", "Four.has_same": "(self, other)",
    },
    "notation": {"format_four": "(four)", "parse_four": "(text)"},
    "words": {
        "check_word": "(word)", "is_reduced": "(word)", "reduced": "(word)", "joined": "(one, other)",
        "backwards": "(word)", "core_of": "(word)", "repeated": "(word, times, *, limit=2000)",
        "order_of": "(word)", "word_count": "(length)", "words_of": "(length, *, limit=2000)",
    },
    "walks": {
        "four_at": "(four, word)", "fours_along": "(four, word)", "circles_along": "(four, word)",
        "circle_at": "(four, word)", "is_quadruple": "(curvatures)", "curvatures_at": "(curvatures, word)",
        "curvatures_along": "(curvatures, word)",
    },
    "matrices": {
        "matrix_of": "(word)", "product": "(one, other)", "applied": "(matrix, numbers)", "power": "(matrix, times)",
        "power_modulo": "(matrix, times, modulus)", "curvatures_after": "(curvatures, word, times)",
        "curvatures_modulo": "(curvatures, word, times, modulus)", "word_of": "(matrix)",
    },
    "roots": {
        "way_down": "(four)", "root_of": "(four)", "root_curvatures": "(four)", "alike_heaps": "(one, other)",
        "heap_paper": "(one, other)", "check_heap_paper": "(one, other, told)",
    },
    "addresses": {
        "coordinates": "(four, circle)", "address_of": "(four, circle)", "is_there": "(four, circle)",
        "same_heap": "(one, other)", "word_between": "(one, other)", "absence": "(four, circle)",
        "check_absence": "(four, circle, word)",
    },
    "touching": {
        "circle_by": "(four, number, pair)", "pair_of": "(four, number, circle)", "form_of": "(four, number)",
        "curvature_by": "(four, number, pair)", "are_neighbours": "(one, other)",
        "four_by": "(four, number, one, other)", "common_neighbours": "(one, other)",
    },
    "around": {
        "pairs_to": "(four, number, most, *, limit=2000)", "least_around": "(four, number)", "chain": "(one, other)",
        "steps_between": "(one, other)", "is_chain": "(pairs)",
    },
    "names": {"is_name": "(text)"},
    "lists": {
        "circles_up_to": "(four, most, *, limit=2000)", "curvatures_up_to": "(four, most, *, limit=2000)",
        "circles_of": "(four, curvature, *, limit=2000)", "curvature_behind": "(four, curvature, *, limit=2000)",
        "first_circles": "(four, many, *, limit=2000)", "neighbours_of": "(four, circle, most, *, limit=2000)",
        "covers": "(four, circles, *, limit=2000)",
    },
    "catalogue": {
        "decide": "(kind, fours, most=None)", "Catalogue": "()", "Catalogue.set_four": "(self, name, four)",
        "Catalogue.walk": "(self, name, word)", "Catalogue.remove_four": "(self, name)",
        "Catalogue.ask": "(self, name, kind, names, most=None)", "Catalogue.drop": "(self, name)",
        "Catalogue.undo": "(self)", "Catalogue.redo": "(self)", "Catalogue.change_all": "(self, changes)",
        "Catalogue.four_names": "(self)", "Catalogue.question_names": "(self)", "Catalogue.four": "(self, name)",
        "Catalogue.question": "(self, name)", "Catalogue.answer": "(self, name)", "Catalogue.answers": "(self)",
    },
    "commands": {
        "split_words": "(line)", "is_number": "(word)", "word_of": "(words)", "is_command": "(words)",
    },
    "session": {"Session": "()", "Session.run": "(self, text)"},
    "texts": {
        "word_text": "(word)", "circles_text": "(circles)", "parse_word": "(text)", "parse_circles": "(text)",
        "heap_text": "(one, other)", "parse_heap": "(text)", "check_heap_text": "(one, other, text)",
        "place_text": "(four, circle)", "check_place_text": "(four, circle, text)",
    },
    "moves": {
        "moved": "(four, s, t)", "turned": "(four, quarters)", "mirrored": "(four)", "put": "(four, way)",
        "imaged": "(four)", "finer": "(four, factor)", "coarser": "(four, factor)", "way_between": "(four, other)",
    },
    "remainders": {
        "closed_list": "(curvatures, modulus, *, limit=20000)", "check_closed": "(curvatures, modulus, told)",
        "taken": "(curvatures, modulus, *, limit=20000)", "never": "(curvatures, modulus, *, limit=20000)",
        "witness": "(curvatures, modulus, remainder, *, limit=20000)",
        "check_witness": "(curvatures, modulus, remainder, word)",
        "shows_never": "(curvatures, modulus, remainder, told)",
    },
    "missing": {
        "root_quadruple": "(curvatures)", "common_divisor": "(curvatures)",
        "standing": "(curvatures, most, *, limit=20000)", "missing": "(curvatures, most, *, limit=20000)",
        "missing_though_taken": "(curvatures, modulus, most, *, limit=20000)",
        "least_missing": "(curvatures, modulus, most, *, limit=20000)",
    },
    "points": {
        "touching_point": "(one, other)", "touching_points": "(four)", "is_touching": "(one, other, point)",
        "gap_circle": "(four, number)", "gap_of": "(four, point)", "way_of": "(four, point, steps)",
        "place_of": "(four, point, *, limit=1000)", "check_place": "(four, point, told)",
    },
    "errors": {
        "FourtouchError": None, "InvalidCircle": None, "InvalidFour": None, "InvalidWord": None,
        "InvalidQuestion": None, "NothingToUndo": None, "NothingToRedo": None, "UnknownName": "(name)",
        "InvalidNotation": "(line)", "InvalidPaper": "(line)", "TooMany": "(limit)", "NotThere": "(step)",
        "NameInUse": "(name)",
    },
}
LIBRARY = {"math": {"gcd", "isqrt", "lcm"}, "heapq": {"heapify", "heappop", "heappush"}}
BANNED = (
    ast.AsyncFunctionDef, ast.Global, ast.Import, ast.AnnAssign, ast.Div, ast.MatMult, ast.SetComp, ast.Await,
)


def package_files():
    return sorted(PACKAGE.glob("*.py"))


def defined_names(tree):
    """The names that a file gives to functions, classes and values."""
    names = {part.name for part in tree.body if isinstance(part, (ast.FunctionDef, ast.ClassDef))}
    for part in tree.body:
        if isinstance(part, ast.Assign):
            names.update(target.id for target in part.targets)
    return names


def trees():
    return [(path, ast.parse(path.read_text(encoding="utf-8"))) for path in package_files()]


class Interface(unittest.TestCase):
    def test_names_and_arguments(self):
        for file, names in INTERFACE.items():
            module = import_module("fourtouch." + file)
            for name, told in names.items():
                value = module
                for part in name.split("."):
                    value = vars(value)[part]
                self.assertEqual(value.__module__, "fourtouch." + file, name)
                if told is not None:
                    self.assertEqual(str(inspect.signature(value)), told, name)

    def test_the_package_itself_defines_nothing(self):
        tree = ast.parse((PACKAGE / "__init__.py").read_text(encoding="utf-8"))
        for statement in tree.body:
            self.assertIsInstance(statement, ast.Expr)
            self.assertIsInstance(statement.value.value, str)


class Language(unittest.TestCase):
    def test_sizes_and_characters(self):
        for path in package_files():
            text = path.read_text(encoding="utf-8")
            lines = text.split("\n")
            self.assertLessEqual(len(lines), 399, path)
            self.assertLessEqual(max(map(len, lines)), 120, path)
            self.assertTrue(all(letter == "\n" or " " <= letter <= "~" for letter in text), path)

    def test_only_python_files(self):
        names = {path.suffix for path in PACKAGE.iterdir() if path.name != "__pycache__"}
        self.assertEqual(names, {".py"})

    def test_sizes_of_functions(self):
        for path, tree in trees():
            for node in ast.walk(tree):
                if isinstance(node, ast.FunctionDef):
                    self.assertLessEqual(node.end_lineno - node.lineno + 1, 40, (path, node.name))
                    self.assertEqual(node.decorator_list, [], (path, node.name))

    def test_imports(self):
        for path, tree in trees():
            for node in ast.walk(tree):
                if isinstance(node, ast.ImportFrom):
                    names = {alias.name for alias in node.names}
                    self.assertIn(node, tree.body)
                    self.assertEqual(node.level, 0)
                    self.assertTrue(all(alias.asname is None for alias in node.names))
                    if node.module in LIBRARY:
                        self.assertLessEqual(names, LIBRARY[node.module], path)
                    else:
                        own = ast.parse((PACKAGE / (node.module.removeprefix("fourtouch.") + ".py")).read_text())
                        self.assertLessEqual(names, defined_names(own), path)

    def test_no_two_files_import_from_each_other(self):
        behind = {
            path.stem: {node.module.removeprefix("fourtouch.") for node in tree.body
                        if isinstance(node, ast.ImportFrom) and node.module not in LIBRARY}
            for path, tree in trees()
        }
        while behind:
            free = [name for name, others in behind.items() if not others & set(behind)]
            self.assertTrue(free, behind)
            for name in free:
                del behind[name]

    def test_no_name_of_a_builtin(self):
        barred = set(dir(builtins)) - {"__doc__"}
        for path, tree in trees():
            for node in ast.walk(tree):
                names = set()
                if isinstance(node, (ast.FunctionDef, ast.ClassDef)):
                    names.add(node.name)
                if isinstance(node, ast.arg):
                    names.add(node.arg)
                if isinstance(node, ast.Name) and isinstance(node.ctx, ast.Store):
                    names.add(node.id)
                if isinstance(node, ast.ImportFrom):
                    names.update(alias.name for alias in node.names)
                self.assertEqual(names & barred, set(), path)

    def test_no_variable_with_the_name_of_a_class_or_an_import(self):
        for path, tree in trees():
            given = {alias.name for node in tree.body if isinstance(node, ast.ImportFrom) for alias in node.names}
            given |= {node.name for node in tree.body if isinstance(node, ast.ClassDef)}
            for node in ast.walk(tree):
                if isinstance(node, ast.arg):
                    self.assertNotIn(node.arg, given, path)
                if isinstance(node, ast.Name) and isinstance(node.ctx, ast.Store):
                    self.assertNotIn(node.id, given, path)

    def test_nothing_that_is_barred(self):
        for path, tree in trees():
            for node in ast.walk(tree):
                self.assertNotIsInstance(node, BANNED, (path, getattr(node, "lineno", 0)))
                if isinstance(node, ast.Constant):
                    self.assertNotIsInstance(node.value, (float, complex), path)
                    if isinstance(node.value, str):
                        self.assertNotIn("%", node.value, path)


if __name__ == "__main__":
    unittest.main()
