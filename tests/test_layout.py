"""The package itself: what it imports, how large it is, and where the interface is defined (point 2)."""

import ast
import unittest
from pathlib import Path

PACKAGE = Path(__file__).resolve().parent.parent / "noteless"
INTERFACE = {
    "errors": {"NotelessError": [], "InvalidText": [], "InvalidWish": [], "UnknownStep": [], "UnknownLetter": [], "InvalidLasso": [],
               "LettersDiffer": [], "TooLarge": [], "BoardError": [], "InvalidDeed": [], "InvalidPlan": [], "InvalidMove": [],
               "NotesNeeded": [], "InvalidPlace": [], "InvalidWays": [], "UnknownPlace": [], "PlaceInUse": []},
    "pairs": {"parting": [], "same": []},
    "wishes": {"Wish": ["__init__", "read", "marks", "text", "marked", "remark", "reach", "__getitem__", "__setitem__", "__rshift__",
                        "__contains__", "__or__", "__and__", "__ior__", "__le__", "__lt__"], "either": [], "both": []},
    "leftovers": {"classes": [], "ladder": [], "least": []},
    "kinds": {"crossing": [], "rise": [], "laps": [], "needs_notes": []},
    "boards": {"Board": ["__init__", "read", "valid_name", "add", "give", "remove", "change", "trial", "owner", "copy", "text", "table",
                         "__getitem__", "__setitem__", "__contains__", "__len__", "__iter__"], "Trial": ["__enter__", "__exit__"]},
    "plans": {"Plan": ["__init__", "__call__", "choices"], "Turns": ["__init__", "__call__"], "play": [], "kept_to": []},
    "games": {"won": [], "solve": [], "judge": []},
    "breakers": {"Breaker": ["__init__"], "breaking": []},
}
LIBRARY = {"heapq", "math", "itertools", "collections", "__future__"}


def files():
    return [(path, path.read_text(encoding="utf-8")) for path in sorted(PACKAGE.rglob("*.py"))]


class LayoutTest(unittest.TestCase):
    def test_no_clock_no_random_numbers_no_files(self):
        for path, text in files():
            for node in ast.walk(ast.parse(text)):
                with self.subTest(path=path.name):
                    self.assertNotIsInstance(node, ast.Import)
                    if isinstance(node, ast.ImportFrom):
                        self.assertIn(node.module.split(".")[0], LIBRARY | {"noteless"})
                    if isinstance(node, ast.Name):
                        self.assertNotIn(node.id, ("open", "input", "print", "eval", "exec"))

    def test_sizes_and_characters(self):
        for path, text in files():
            rows = text.split("\n")
            self.assertLess(len(rows), 400, path.name)
            for row in rows:
                self.assertLessEqual(len(row), 120, path.name)
                self.assertTrue(all(" " <= character <= "~" for character in row), path.name)
            for node in ast.walk(ast.parse(text)):
                if isinstance(node, ast.FunctionDef):
                    self.assertLessEqual(node.end_lineno - node.lineno + 1, 40, node.name)

    def test_the_interface_is_defined_in_its_files(self):
        for module, names in INTERFACE.items():
            tree = ast.parse((PACKAGE / f"{module}.py").read_text(encoding="utf-8"))
            defined = {node.name: node for node in tree.body if isinstance(node, (ast.FunctionDef, ast.ClassDef))}
            for name, methods in names.items():
                self.assertIn(name, defined)
                own = [node.name for node in defined[name].body if isinstance(node, ast.FunctionDef)]
                for method in methods:
                    self.assertIn(method, own)


if __name__ == "__main__":
    unittest.main()
