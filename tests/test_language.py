"""The plainest of the rules that the package's files keep to: their sizes, signs, names and imports."""

import ast
import pathlib
import unittest

PACKAGE = pathlib.Path(__file__).resolve().parent.parent / "valueedits"
FILES = sorted(path for path in PACKAGE.rglob("*") if "__pycache__" not in path.parts and path.is_file())


class Language(unittest.TestCase):
    def test_only_python_files(self):
        self.assertIn(PACKAGE / "desk.py", FILES)
        self.assertEqual([path for path in FILES if path.suffix != ".py"], [])

    def test_signs_and_sizes_of_files(self):
        for path in FILES:
            with self.subTest(path=path.name):
                text = path.read_bytes()
                self.assertEqual([byte for byte in text if byte != 10 and not 32 <= byte <= 126], [])
                rows = text.split(b"\n")
                self.assertLessEqual(len(rows), 400)
                self.assertLessEqual(max(map(len, rows)), 120)

    def test_sizes_of_functions(self):
        for path in FILES:
            for node in ast.walk(ast.parse(path.read_text())):
                if isinstance(node, ast.FunctionDef):
                    with self.subTest(path=path.name, function=node.name):
                        self.assertLessEqual(node.end_lineno - node.lineno + 1, 40)

    def test_only_the_packages_own_names_are_imported(self):
        for path in FILES:
            for node in ast.walk(ast.parse(path.read_text())):
                with self.subTest(path=path.name):
                    self.assertNotIsInstance(node, ast.Import)
                    if isinstance(node, ast.ImportFrom):
                        self.assertTrue(node.module.startswith("valueedits."))
                        source = PACKAGE / (node.module.partition(".")[2] + ".py")
                        bound = bound_at_the_top(ast.parse(source.read_text()))
                        self.assertEqual([name.name for name in node.names if name.name not in bound], [])

    def test_no_name_is_a_method_here_and_a_value_there(self):
        methods = set()
        kept = set()
        for path in FILES:
            for node in ast.walk(ast.parse(path.read_text())):
                if isinstance(node, ast.ClassDef):
                    methods.update(part.name for part in node.body if isinstance(part, ast.FunctionDef))
                if isinstance(node, ast.Attribute) and isinstance(node.ctx, ast.Store):
                    kept.add(node.attr)
        self.assertEqual(methods & kept, set())


def bound_at_the_top(tree):
    """The names that a file itself gives a meaning, imports left out."""
    names = set()
    for node in tree.body:
        if isinstance(node, (ast.FunctionDef, ast.ClassDef)):
            names.add(node.name)
        if isinstance(node, ast.Assign):
            names.update(target.id for target in node.targets)
    return names


if __name__ == "__main__":
    unittest.main()
