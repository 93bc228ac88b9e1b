"""Checks of the form of the package that a program can make: a part of the rules of the Python subset."""

import ast
import pathlib
import re
import unittest

FOLDER = pathlib.Path(__file__).resolve().parent.parent / "mustread"
FILES = sorted(FOLDER.glob("*.py"))

INTERFACE = {
    "errors": {"MustError": [], "BadExpression": [], "BadContract": [], "BadProgram": [], "BadChange": [],
               "BadName": [], "BadChoice": [], "BadTree": [], "TooLarge": [], "NothingRead": [], "BadText": []},
    "expressions": {"Expression": ["size", "calls", "nodes", "value"], "Const": ["value"], "Arg": ["value"],
                    "Call": ["value"], "Choose": ["value", "table"]},
    "programs": {"Contract": ["size", "rows", "free", "exactly"],
                 "Program": ["size", "names", "kept", "broken", "contract", "body", "results", "places", "changed"]},
    "rivals": {"is_rival": None, "differing": None},
    "derivations": {"derives": None},
    "reading": {"is_enough": None, "must_read": None, "Reading": ["shows"]},
    "impact": {"impact": None, "trail": None, "culprit": None, "harmless": None},
    "reviews": {"Review": ["seen", "spent", "outcome", "rest", "read", "undo", "finish", "after"]},
    "texts": {"expression_text": None, "program_text": None, "change_text": None, "read_expression": None,
              "read_program": None, "read_change": None},
}
BUILTINS = """len range enumerate zip min max sum abs sorted reversed int str bool list tuple dict set isinstance
    ord repr any all divmod super property staticmethod classmethod ValueError TypeError KeyError IndexError
    NotImplementedError NotImplemented Exception iter next map""".split()
LIBRARY = {"itertools": ["combinations", "product", "permutations"]}
WHOLE = "any all sum min max sorted".split()
BARRED = re.compile("\\b(typing|enum|namedtuple|abstractmethod|dataclass|overload|contextmanager|global|async)\\b")


def tree(path):
    return ast.parse(path.read_text(encoding="utf-8"))


def functions(path):
    return [node for node in ast.walk(tree(path)) if isinstance(node, ast.FunctionDef)]


def yields(function):
    return any(isinstance(node, (ast.Yield, ast.YieldFrom)) for node in ast.walk(function))


class FormTest(unittest.TestCase):
    def test_nothing_else_stands_in_the_folder(self):
        for path in FOLDER.iterdir():
            if path.name != "__pycache__":
                self.assertRegex(path.name, "^[a-z_]+[.]py$")
        self.assertTrue((FOLDER / "__init__.py").is_file())

    def test_characters_and_lines(self):
        for path in FILES:
            data = path.read_bytes()
            self.assertTrue(all(byte == 10 or 32 <= byte <= 126 for byte in data), path)
            lines = data.decode("ascii").split("\n")
            self.assertLessEqual(len(lines), 399, path)
            self.assertLessEqual(max(len(line) for line in lines), 120, path)
            self.assertIsNone(BARRED.search(data.decode("ascii")), path)

    def test_functions_are_small(self):
        for path in FILES:
            for function in functions(path):
                self.assertLessEqual(function.end_lineno - function.lineno + 1, 40, function.name)

    def test_imports_name_the_defining_file_of_the_package(self):
        for path in FILES:
            for node in ast.walk(tree(path)):
                self.assertNotIsInstance(node, ast.Import, path)
                if isinstance(node, ast.ImportFrom) and node.module in LIBRARY:
                    for name in node.names:
                        self.assertIn(name.name, LIBRARY[node.module])
                        self.assertIsNone(name.asname)
                elif isinstance(node, ast.ImportFrom):
                    self.assertEqual([node.level, node.module.split(".")[0]], [0, "mustread"])
                    source = FOLDER / (node.module.split(".")[1] + ".py")
                    text = source.read_text(encoding="utf-8")
                    for name in node.names:
                        self.assertRegex(text, f"(?m)^(def |class )?{name.name}( =|[(:])")
                        self.assertIsNone(name.asname)

    def test_no_two_files_import_from_each_other(self):
        used = {path.stem: [node.module.split(".")[1] for node in ast.walk(tree(path))
                            if isinstance(node, ast.ImportFrom) and node.module not in LIBRARY] for path in FILES}
        known = []
        while len(known) < len(used):
            more = [file for file in used if file not in known and all(other in known for other in used[file])]
            self.assertNotEqual(more, [])
            known += more

    def test_imports_are_used_and_are_no_local_names(self):
        for path in FILES:
            imported = [name.name for node in tree(path).body if isinstance(node, ast.ImportFrom)
                        for name in node.names]
            classes = [node.name for node in tree(path).body if isinstance(node, ast.ClassDef)]
            read = [node.id for node in ast.walk(tree(path))
                    if isinstance(node, ast.Name) and isinstance(node.ctx, ast.Load)]
            bound = [node.id for node in ast.walk(tree(path))
                     if isinstance(node, ast.Name) and isinstance(node.ctx, ast.Store)]
            bound += [node.arg for node in ast.walk(tree(path)) if isinstance(node, ast.arg)]
            for name in imported:
                self.assertIn(name, read, path)
            for name in imported + classes:
                self.assertNotIn(name, bound, path)

    def test_module_level(self):
        allowed = (ast.Expr, ast.ImportFrom, ast.FunctionDef, ast.ClassDef, ast.Assign)
        for path in FILES:
            for node in tree(path).body:
                self.assertIsInstance(node, allowed, path)

    def test_builtins(self):
        import builtins
        for path in FILES:
            for node in ast.walk(tree(path)):
                if isinstance(node, ast.Name) and hasattr(builtins, node.id):
                    self.assertIn(node.id, BUILTINS, path)

    def test_no_generator_expression_beside_an_equality(self):
        for path in FILES:
            for node in ast.walk(tree(path)):
                self.assertNotIsInstance(node, ast.GeneratorExp, path)
                if isinstance(node, ast.Call) and isinstance(node.func, ast.Name) and node.func.id in WHOLE:
                    self.assertNotIsInstance(node.args[0], ast.GeneratorExp, path)

    def test_no_floats_and_no_division(self):
        for path in FILES:
            for node in ast.walk(tree(path)):
                self.assertNotIsInstance(node, ast.Div, path)
                self.assertFalse(isinstance(node, ast.Constant) and isinstance(node.value, float), path)

    def test_a_generator_has_its_name_alone(self):
        names = [function.name for path in FILES for function in functions(path)]
        found = [function.name for path in FILES for function in functions(path) if yields(function)]
        for name in found:
            self.assertEqual(names.count(name), 1, name)

    def test_the_interface_stands_where_it_is_listed(self):
        for file, names in INTERFACE.items():
            nodes = {node.name: node for node in tree(FOLDER / (file + ".py")).body
                     if isinstance(node, (ast.ClassDef, ast.FunctionDef))}
            for name, methods in names.items():
                self.assertIsInstance(nodes[name], ast.FunctionDef if methods is None else ast.ClassDef, name)
                defined = [node.name for node in nodes[name].body if isinstance(node, ast.FunctionDef)]
                for method in methods or []:
                    self.assertEqual(defined.count(method), 1, (name, method))


if __name__ == "__main__":
    unittest.main()
