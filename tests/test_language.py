"""The rules of LANGUAGE.md that are easily seen in the code, and where the interface wants its names to stand."""

import ast
import builtins
import pathlib
import re
import unittest

PACKAGE = pathlib.Path(__file__).resolve().parent.parent / "agewords"

BUILTINS = set("""len range enumerate zip min max sum abs sorted reversed int str bool list tuple dict set isinstance ord
    repr any all divmod Exception ValueError TypeError KeyError IndexError LookupError ZeroDivisionError
    NotImplementedError NotImplemented classmethod staticmethod property super""".split())

METHODS = set("""append clear copy count endswith extend find get index insert isalnum isalpha isdigit islower isspace
    isupper items join keys ljust lower lstrip partition pop remove replace reverse rfind rjust rpartition rsplit rstrip
    setdefault split splitlines startswith strip update upper values zfill bit_length add discard""".split())

DOUBLE_UNDERSCORE = set("__init__ __eq__ __repr__ __str__ __len__".split())

BARRED = re.compile(r"\b(type|typing|enum|Enum|ABC|Generic|Protocol|namedtuple|NamedTuple)\b|dataclass|overload")

# Generator expressions may stand in some places, but not in most where the package would want them.
BARRED_NODES = (ast.GeneratorExp, ast.Global, ast.AsyncFunctionDef, ast.Await, ast.Div, ast.Import)

INTERFACE = {
    "errors": {"AgeError": (), "BadRow": (), "BadText": (), "BadAge": (), "Unsteady": (), "Clash": (), "NotKept": (),
               "NothingLeft": (), "Busy": ()},
    "wordings": {"Row": ("__init__", "__eq__"),
                 "Wording": ("__init__", "__eq__", "__str__", "label", "text", "later_edge", "last_edge", "edges",
                             "ages", "returns", "read")},
    "compare": {"alike": None, "finer": None, "harmless": None},
    "looks": {"shown": None, "events": None, "order": None, "same_events": None},
    "beats": {"Beat": ("__init__",), "known": None, "needed": None},
    "screens": {"Screen": ("__init__", "worded", "shows"), "latest": None, "skipped": None, "greatest_waits": None},
    "phases": {"pieces": None, "events_of": None},
    "units": {"units": None, "parting": None},
    "boards": {"Board": ("__init__", "looks", "events", "put", "drop", "keep", "free", "undo", "redo", "tried")}}


def parsed():
    return [(path, ast.parse(path.read_text(encoding="utf-8"))) for path in sorted(PACKAGE.rglob("*.py"))]


def nodes(kind):
    return [(path.name, node) for path, tree in parsed() for node in ast.walk(tree) if isinstance(node, kind)]


class Files(unittest.TestCase):

    def test_the_folder_contains_python_files_alone(self):
        others = [path for path in PACKAGE.rglob("*") if path.suffix != ".py" and "__pycache__" not in path.parts]
        self.assertEqual(others, [])
        self.assertTrue((PACKAGE / "__init__.py").exists())

    def test_characters_and_sizes(self):
        for path, _ in parsed():
            text = path.read_text(encoding="utf-8")
            self.assertEqual([c for c in text if c != "\n" and not " " <= c <= "~"], [], path)
            self.assertLess(len(text.split("\n")), 400, path)
            self.assertEqual([line for line in text.split("\n") if len(line) > 120], [], path)

    def test_functions_have_at_most_40_lines(self):
        for name, node in nodes(ast.FunctionDef):
            self.assertLessEqual(node.end_lineno - node.lineno + 1, 40, (name, node.name))


class Code(unittest.TestCase):

    def test_imports_stand_by_full_names_and_without_circles(self):
        met = set()
        waiting = dict((path.stem, tree) for path, tree in parsed())
        while waiting:
            ready = []
            for stem, tree in waiting.items():
                imports = [node for node in ast.walk(tree) if isinstance(node, ast.ImportFrom)]
                self.assertEqual([node.level for node in imports if node.level], [], stem)
                modules = {node.module for node in imports}
                self.assertEqual([m for m in modules if not m.startswith("agewords.") and m not in ("heapq", "math")], [])
                if all(module.split(".")[-1] in met for module in modules if module.startswith("agewords.")):
                    ready.append(stem)
            self.assertTrue(ready, waiting.keys())
            met |= set(ready)
            waiting = {stem: tree for stem, tree in waiting.items() if stem not in met}

    def test_no_barred_statements_and_expressions(self):
        for name, node in nodes(BARRED_NODES):
            self.fail((name, getattr(node, "lineno", None), ast.dump(node)))

    def test_builtins(self):
        for name, node in nodes(ast.Name):
            # The interpreter itself may keep its last answer there as _.
            if hasattr(builtins, node.id) and node.id != "_":
                self.assertIn(node.id, BUILTINS, (name, node.lineno))
                self.assertIsInstance(node.ctx, ast.Load, (name, node.lineno))
        for name, node in nodes(ast.arg):
            self.assertFalse(hasattr(builtins, node.arg) and node.arg != "_", (name, node.lineno))

    def test_methods_that_are_called(self):
        own = {node.name for _, node in nodes(ast.FunctionDef)}
        for name, node in nodes(ast.Call):
            if isinstance(node.func, ast.Attribute):
                self.assertIn(node.func.attr, METHODS | own, (name, node.lineno))

    def test_double_underscores(self):
        for name, node in nodes(ast.FunctionDef):
            if node.name.startswith("__"):
                self.assertIn(node.name, DOUBLE_UNDERSCORE, (name, node.lineno))

    def test_decorators(self):
        for name, node in nodes((ast.FunctionDef, ast.ClassDef)):
            for decorator in node.decorator_list:
                self.assertIn(ast.unparse(decorator), ("property", "classmethod", "staticmethod"), (name, node.lineno))

    def test_finally_only_assigns(self):
        for name, node in nodes(ast.Try):
            for statement in node.finalbody:
                self.assertIsInstance(statement, (ast.Assign, ast.AugAssign), (name, statement.lineno))
                kinds = {type(part) for part in ast.walk(statement)}
                self.assertEqual(kinds & {ast.Call, ast.Subscript, ast.Compare, ast.UnaryOp}, set(), (name, statement.lineno))

    def test_no_name_is_a_method_and_an_attribute_in_one_class(self):
        for name, node in nodes(ast.ClassDef):
            methods = {part.name for part in node.body if isinstance(part, ast.FunctionDef)}
            stored = {part.attr for part in ast.walk(node) if isinstance(part, ast.Attribute)
                      and isinstance(part.ctx, ast.Store)}
            self.assertEqual(methods & stored, set(), (name, node.name))

    def test_values(self):
        for name, node in nodes(ast.Constant):
            self.assertNotIsInstance(node.value, (float, complex), (name, node.lineno))
            if isinstance(node.value, str):
                self.assertNotIn("%", node.value, (name, node.lineno))

    def test_words_that_do_not_occur(self):
        for path, _ in parsed():
            self.assertIsNone(BARRED.search(path.read_text(encoding="utf-8")), path)


class Interface(unittest.TestCase):

    def test_names_are_defined_where_they_are_listed(self):
        trees = {path.stem: tree for path, tree in parsed()}
        for stem, names in INTERFACE.items():
            defined = {node.name: node for node in trees[stem].body if isinstance(node, (ast.ClassDef, ast.FunctionDef))}
            for name, methods in names.items():
                self.assertIn(name, defined)
                self.assertIs(isinstance(defined[name], ast.ClassDef), methods is not None, name)
                if methods is not None:
                    body = {node.name for node in defined[name].body if isinstance(node, ast.FunctionDef)}
                    self.assertEqual(set(methods) - body, set(), name)


if __name__ == "__main__":
    unittest.main()
