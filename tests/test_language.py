"""The rules of the language that the program is written in, as far as they are easily seen."""

import ast
import builtins
import pathlib
import re
import unittest

PACKAGE = pathlib.Path(__file__).resolve().parent.parent / "sumsplay"
STATEMENTS = (ast.Expr, ast.ImportFrom, ast.FunctionDef, ast.ClassDef, ast.Assign)
BARRED = (ast.Import, ast.AsyncFunctionDef, ast.Await, ast.Div, ast.MatMult)
ALLOWED = (
    "len range enumerate zip map min max sum abs sorted reversed int str bool bytes list tuple dict set frozenset "
    "isinstance ord repr any all divmod pow getattr hasattr setattr type iter next super property staticmethod "
    "classmethod Exception ValueError TypeError KeyError IndexError LookupError ZeroDivisionError ArithmeticError "
    "OverflowError RuntimeError NotImplementedError AttributeError StopIteration NotImplemented").split()


def sources():
    return sorted(PACKAGE.glob("*.py"))


def trees():
    return {path.stem: ast.parse(path.read_text()) for path in sources()}


def within(tree, kinds):
    return [node for node in ast.walk(tree) if isinstance(node, kinds)]


class LanguageTest(unittest.TestCase):
    def test_the_folder_holds_plain_files_of_python_alone(self):
        for path in PACKAGE.iterdir():
            if path.name != "__pycache__":
                self.assertRegex(path.name, r"^[a-z0-9_]+\.py$")
        self.assertTrue((PACKAGE / "__init__.py").exists())

    def test_characters_and_lengths(self):
        for path in sources():
            text = path.read_text(encoding="utf-8")
            self.assertIsNone(re.search("[^ -~\n]", text), path.name)
            lines = text.split("\n")
            self.assertLessEqual(len(lines), 399)
            self.assertLessEqual(max(map(len, lines)), 120, path.name)

    def test_lengths_of_functions(self):
        for name, tree in trees().items():
            for function in within(tree, ast.FunctionDef):
                self.assertLessEqual(function.end_lineno - function.lineno + 1, 40, f"{name}: {function.name}")

    def test_imports(self):
        needs = {}
        for name, tree in trees().items():
            needs[name] = []
            for line in within(tree, ast.ImportFrom):
                self.assertIn(line, tree.body)
                self.assertEqual(line.level, 0)
                package, _, module = line.module.partition(".")
                self.assertIn(package, ("sumsplay", "heapq", "math", "itertools", "collections"))
                if package == "sumsplay":
                    needs[name].append(module)
        placed = set()
        while needs:
            ready = [name for name, needed in needs.items() if placed.issuperset(needed)]
            self.assertNotEqual(ready, [], "files import from each other")
            placed.update(ready)
            needs = {name: needed for name, needed in needs.items() if name not in placed}

    def test_what_stands_in_files(self):
        for name, tree in trees().items():
            for statement in tree.body:
                self.assertIsInstance(statement, STATEMENTS, name)
            self.assertEqual([ast.dump(node) for node in within(tree, BARRED)], [], name)
            for node in within(tree, ast.Constant):
                self.assertNotIsInstance(node.value, (float, complex))
                self.assertNotIn("%", str(node.value))

    def test_builtins(self):
        for name, tree in trees().items():
            for node in within(tree, ast.Name):
                if hasattr(builtins, node.id):
                    self.assertIsInstance(node.ctx, ast.Load, f"{name}: {node.id}")
                    self.assertIn(node.id, ALLOWED, name)
            for node in within(tree, ast.arg):
                self.assertFalse(hasattr(builtins, node.arg), f"{name}: {node.arg}")


if __name__ == "__main__":
    unittest.main()
