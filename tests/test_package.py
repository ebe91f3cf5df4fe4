"""The package's files: what of ../shared/LANGUAGE.md can be counted."""

import ast
import builtins
import os
import unittest
import warnings

ROOT = os.path.dirname(os.path.dirname(os.path.abspath(__file__)))
FOLDER = os.path.join(ROOT, "rrdesk")
# Of rule L8, what does neither read, write nor ask for the time or chance.
BUILTINS = """len range enumerate zip min max sum abs sorted reversed int str
bool list tuple dict set isinstance ord repr any all divmod ValueError
KeyError IndexError""".split()


def file_names():
    # Python itself puts __pycache__ there; it is never committed.
    return sorted(set(os.listdir(FOLDER)) - {"__pycache__"})


def source(name):
    with open(os.path.join(FOLDER, name), encoding="ascii", newline="") as held:
        return held.read()


class TestPackage(unittest.TestCase):

    def test_it_holds_python_files_with_plain_names_only(self):
        self.assertIn("__init__.py", file_names())
        for name in file_names():
            with self.subTest(name=name):
                self.assertRegex(name, "^[a-z0-9_]+[.]py$")

    def test_each_character_is_plain(self):
        for name in file_names():
            with self.subTest(name=name):
                strange = [sign for sign in source(name)
                           if sign != "\n" and not " " <= sign <= "~"]
                self.assertEqual(strange, [])

    def test_files_lines_and_functions_are_short(self):
        for name in file_names():
            rows = source(name).split("\n")
            with self.subTest(name=name):
                self.assertLessEqual(len(rows), 399)
                self.assertLessEqual(max(len(row) for row in rows), 120)
                for node in ast.walk(ast.parse(source(name))):
                    if isinstance(node, ast.FunctionDef):
                        long = node.end_lineno - node.lineno + 1
                        self.assertLessEqual(long, 40, node.name)

    def test_imports_are_by_full_names_and_from_the_package(self):
        for name in file_names():
            for node in ast.walk(ast.parse(source(name))):
                with self.subTest(name=name):
                    self.assertNotIsInstance(node, ast.Import)
                    if isinstance(node, ast.ImportFrom):
                        self.assertEqual(node.level, 0)
                        self.assertEqual(node.module.split(".")[0], "rrdesk")

    def test_no_other_builtin_is_used(self):
        for name in file_names():
            for node in ast.walk(ast.parse(source(name))):
                if isinstance(node, ast.Name) and hasattr(builtins, node.id):
                    with self.subTest(name=name):
                        self.assertIn(node.id, BUILTINS)

    def test_python_gives_no_warning(self):
        for name in file_names():
            with self.subTest(name=name), warnings.catch_warnings():
                warnings.simplefilter("error")
                compile(source(name), name, "exec")


if __name__ == "__main__":
    unittest.main()
