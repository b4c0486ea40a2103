"""The rules of the language that the program is written in, as far as they are easily seen."""

import ast
import builtins
import pathlib
import re
import unittest

PACKAGE = pathlib.Path(__file__).resolve().parent.parent / "sumsplay"
STATEMENTS = (ast.Expr, ast.ImportFrom, ast.FunctionDef, ast.ClassDef, ast.Assign)
BARRED = (ast.Import, ast.AsyncFunctionDef, ast.Await, ast.Div, ast.MatMult)
ALLOWED = (
    "len range enumerate zip map min max sum abs sorted reversed int str bool bytes list tuple dict set frozenset "
    "isinstance ord repr any all divmod pow getattr hasattr setattr type iter next super property staticmethod "
    "classmethod Exception ValueError TypeError KeyError IndexError LookupError ZeroDivisionError ArithmeticError "
    "OverflowError RuntimeError NotImplementedError AttributeError StopIteration NotImplemented").split()


BARRED_NAMES = (
    "register mro elements open input law version_info with_traceback add_note _cold _tuplegetter _outside _record "
    "_written_out _member_names attrgetter breakpoint builtins compile copyright credits delattr dir eval exec exit gc "
    "globals help id importlib license locals methodcaller os quit vars").split()
BARRED_BEGINNINGS = (
    "_wall", "_pe_", "_dcw_", "_enum_", "_cm_", "_twin_re_", "_lay_", "_law_", "_stub_", "_sre", "_WallAttr")
# Methods of builtin values that may be called. The methods of the package are added to them.
METHODS = (
    "append clear copy count endswith extend find get index insert isalnum isalpha isdigit islower isspace isupper items "
    "join keys ljust lower lstrip partition pop remove replace reverse rfind rjust rpartition rsplit rstrip setdefault "
    "split splitlines startswith strip update upper values zfill bit_length removeprefix removesuffix add discard").split()


def sources():
    return sorted(PACKAGE.glob("*.py"))


def trees():
    return {path.stem: ast.parse(path.read_text()) for path in sources()}


def within(tree, kinds):
    return [node for node in ast.walk(tree) if isinstance(node, kinds)]


class LanguageTest(unittest.TestCase):
    def test_the_folder_holds_plain_files_of_python_alone(self):
        for path in PACKAGE.iterdir():
            if path.name != "__pycache__":
                self.assertRegex(path.name, r"^[a-z0-9_]+\.py$")
        self.assertTrue((PACKAGE / "__init__.py").exists())

    def test_characters_and_lengths(self):
        for path in sources():
            text = path.read_text(encoding="utf-8")
            self.assertIsNone(re.search("[^ -~\n]", text), path.name)
            lines = text.split("\n")
            self.assertLessEqual(len(lines), 399)
            self.assertLessEqual(max(map(len, lines)), 120, path.name)

    def test_lengths_of_functions(self):
        for name, tree in trees().items():
            for function in within(tree, ast.FunctionDef):
                self.assertLessEqual(function.end_lineno - function.lineno + 1, 40, f"{name}: {function.name}")

    def test_imports(self):
        needs = {}
        for name, tree in trees().items():
            needs[name] = []
            for line in within(tree, ast.ImportFrom):
                self.assertIn(line, tree.body)
                self.assertEqual(line.level, 0)
                package, _, module = line.module.partition(".")
                self.assertIn(package, ("sumsplay", "heapq", "math", "itertools", "collections"))
                if package == "sumsplay":
                    needs[name].append(module)
        placed = set()
        while needs:
            ready = [name for name, needed in needs.items() if placed.issuperset(needed)]
            self.assertNotEqual(ready, [], "files import from each other")
            placed.update(ready)
            needs = {name: needed for name, needed in needs.items() if name not in placed}

    def test_what_stands_in_files(self):
        for name, tree in trees().items():
            for statement in tree.body:
                self.assertIsInstance(statement, STATEMENTS, name)
            self.assertEqual([ast.dump(node) for node in within(tree, BARRED)], [], name)
            for node in within(tree, ast.Constant):
                self.assertNotIsInstance(node.value, (float, complex))
                self.assertNotIn("%", str(node.value))

    def test_names(self):
        for name, tree in trees().items():
            names = [node.id for node in within(tree, ast.Name)] + [node.arg for node in within(tree, ast.arg)]
            names += [node.attr for node in within(tree, ast.Attribute)]
            names += [node.name for node in within(tree, (ast.FunctionDef, ast.ClassDef))]
            for word in names:
                self.assertNotIn(word.rstrip("0123456789_"), BARRED_NAMES, name)
                self.assertFalse(word.startswith("__") and not word.endswith("__"), f"{name}: {word}")
                # A method or an attribute may begin with the first one of these.
                self.assertFalse(word.startswith(BARRED_BEGINNINGS[1:]), f"{name}: {word}")
                self.assertNotIn(word, ("_wall", "_WallAttr"))

    def test_names_of_methods_and_attributes(self):
        for name, tree in trees().items():
            for told in within(tree, ast.ClassDef):
                methods = [node.name for node in told.body if isinstance(node, ast.FunctionDef)]
                self.assertEqual(len(methods), len(set(methods)), f"{name}: {told.name}")
                assigned = [node.attr for node in within(told, ast.Attribute) if isinstance(node.ctx, ast.Store)]
                self.assertEqual(set(methods) & set(assigned), set(), f"{name}: {told.name}")

    def test_methods_that_are_called(self):
        own = {node.name for tree in trees().values() for node in within(tree, ast.FunctionDef)}
        given = {"make", "options", "reduced", "_reduced"}
        for name, tree in trees().items():
            for call in within(tree, ast.Call):
                if isinstance(call.func, ast.Attribute):
                    self.assertIn(call.func.attr, own | given | set(METHODS), name)

    def test_names_of_imports_and_classes_are_not_used_otherwise(self):
        for name, tree in trees().items():
            taken = {alias.name for line in within(tree, ast.ImportFrom) for alias in line.names}
            taken |= {node.name for node in within(tree, ast.ClassDef)}
            names = [node.id for node in within(tree, ast.Name) if isinstance(node.ctx, ast.Store)]
            names += [node.arg for node in within(tree, ast.arg)]
            self.assertEqual(set(names) & taken, set(), name)

    def test_no_state_at_module_level(self):
        for name, tree in trees().items():
            for statement in tree.body:
                if isinstance(statement, ast.Assign):
                    self.assertEqual(len(statement.targets), 1)
                    for node in within(statement.value, (ast.Call, ast.Name, ast.Attribute, ast.List, ast.Set)):
                        self.assertFalse(isinstance(node, (ast.Call, ast.Attribute, ast.Set)), name)

    def test_builtins(self):
        for name, tree in trees().items():
            for node in within(tree, ast.Name):
                if hasattr(builtins, node.id):
                    self.assertIsInstance(node.ctx, ast.Load, f"{name}: {node.id}")
                    self.assertIn(node.id, ALLOWED, name)
            for node in within(tree, ast.arg):
                self.assertFalse(hasattr(builtins, node.arg), f"{name}: {node.arg}")


if __name__ == "__main__":
    unittest.main()
