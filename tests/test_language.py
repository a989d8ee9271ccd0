"""The interface's names in their files, and the rules of LANGUAGE.md that a look at the files can tell."""

import ast
import inspect
import pathlib
import unittest

PACKAGE = pathlib.Path(__file__).resolve().parent.parent / "undoneall"
INTERFACE = {
    "programs": {"is_program": ("thing",), "write_program": ("program",), "read_program": ("text",)},
    "checks": {"check": ("program",), "checked": ("program",)},
    "straight": {"is_straight": ("thing",), "lengths": ("text",), "balance": ("text",), "spelled": ("text",),
                 "letter_at": ("text", "place")},
    "shrinking": {"shrunk": ("text",), "written": ("word",), "joined": ("one", "other"), "repeated": ("text", "k"),
                  "opposite": ("text",), "cut": ("text", "low", "high"), "rounds": ("text",),
                  "same_word": ("one", "other"), "first_unlike": ("one", "other")},
    "cancelling": {"reduced": ("text",), "net_product": ("one", "other"), "net_power": ("text", "k"),
                   "is_reduced": ("text",), "alike": ("one", "other"), "is_cancelling": ("text", "thing"),
                   "cancelling": ("text",)},
    "places": {"places": ("program",)},
    "runs": {"is_run": ("program", "thing"), "run_length": ("program", "rows"), "run_text": ("program", "rows"),
             "least_run": ("program", "name"), "small_words": ("program", "name", "most")},
    "residues": {"useful": ("program", "name"), "residue": ("program", "name"), "is_table": ("program", "name",
                                                                                             "thing"),
                 "is_two": ("program", "name", "thing")},
    "standing": {"is_beginning": ("program", "name", "thing"), "is_wrong": ("program", "name", "thing"),
                 "is_keeping": ("program", "name", "thing"), "is_endless": ("program", "name", "thing"),
                 "stands": ("program", "name", "beginning"), "keeps": ("program", "name"),
                 "standing": ("program", "name")},
    "steps": {"stepped": ("program", "step"), "replayed": ("program", "log"), "tidied": ("program",)},
    "whole": {"settled": ("text",), "compared": ("text", "other")},
}
LIBRARY = {"heapq": {"heappop", "heappush"}}
BUILTINS = {"len", "range", "enumerate", "zip", "min", "max", "sum", "abs", "sorted", "reversed", "int", "str", "bool",
            "list", "tuple", "dict", "set", "isinstance", "ord", "repr", "any", "all", "divmod", "super", "ValueError"}
METHODS = {"append", "clear", "copy", "count", "endswith", "extend", "find", "get", "index", "insert", "isdigit",
           "items", "join", "keys", "pop", "remove", "replace", "reverse", "setdefault", "sort", "split",
           "startswith", "strip", "update", "values", "bit_length", "add", "discard", "__init__"}
NODES = (ast.Global, ast.AsyncFunctionDef, ast.Await, ast.Div, ast.MatMult, ast.Import)


def trees():
    """Each file of the package, with its text and its tree."""
    for path in sorted(PACKAGE.rglob("*.py")):
        text = path.read_text()
        yield path, text, ast.parse(text)


def bound_names(tree):
    """All names that are bound anywhere in a file."""
    found = {node.id for node in ast.walk(tree) if isinstance(node, ast.Name) and isinstance(node.ctx, ast.Store)}
    found |= {node.arg for node in ast.walk(tree) if isinstance(node, ast.arg)}
    found |= {node.name for node in ast.walk(tree) if isinstance(node, (ast.FunctionDef, ast.ClassDef))}
    return found | {alias.name for node in ast.walk(tree) if isinstance(node, ast.ImportFrom) for alias in node.names}


class Interface(unittest.TestCase):
    def test_names_and_parameters(self):
        for module, functions in INTERFACE.items():
            found = __import__(f"undoneall.{module}", fromlist=["x"])
            for name, parameters in functions.items():
                function = getattr(found, name)
                self.assertEqual(function.__module__, f"undoneall.{module}")
                self.assertEqual(tuple(inspect.signature(function).parameters), parameters)
                tree = ast.parse((PACKAGE / f"{module}.py").read_text())
                self.assertIn(name, {node.name for node in tree.body if isinstance(node, ast.FunctionDef)})


class Rules(unittest.TestCase):
    def test_sizes_and_signs(self):
        for path, text, tree in trees():
            lines = text.split("\n")
            self.assertLessEqual(len(lines), 400, path)
            self.assertLessEqual(max(len(line) for line in lines), 120, path)
            self.assertTrue(all(sign == "\n" or " " <= sign <= "~" for sign in text), path)
            for node in ast.walk(tree):
                if isinstance(node, ast.FunctionDef):
                    self.assertLessEqual(node.end_lineno - node.lineno + 1, 40, (path, node.name))

    def test_imports_name_the_defining_file_and_make_no_ring(self):
        imports = {}
        for path, _, tree in trees():
            imports[path.stem] = []
            for node in ast.walk(tree):
                if isinstance(node, ast.ImportFrom):
                    if node.module in LIBRARY:
                        self.assertLessEqual({alias.name for alias in node.names}, LIBRARY[node.module], path)
                        continue
                    self.assertTrue(node.module.startswith("undoneall."), path)
                    stem = node.module.split(".")[1]
                    imports[path.stem].append(stem)
                    defined = bound_names(ast.parse((PACKAGE / f"{stem}.py").read_text()))
                    borrowed = {alias.name for other in ast.walk(ast.parse((PACKAGE / f"{stem}.py").read_text()))
                                if isinstance(other, ast.ImportFrom) for alias in other.names}
                    for alias in node.names:
                        self.assertIn(alias.name, defined - borrowed)
        done = set()
        while len(done) < len(imports):
            free = [stem for stem in imports if stem not in done and done.issuperset(imports[stem])]
            self.assertTrue(free, "files import from each other")
            done.update(free)

    def test_nodes_builtins_and_methods(self):
        methods = set(METHODS)
        for _, _, tree in trees():
            for node in ast.walk(tree):
                if isinstance(node, ast.ClassDef):
                    methods |= {part.name for part in node.body if isinstance(part, ast.FunctionDef)}
        for path, _, tree in trees():
            known = bound_names(tree) | BUILTINS
            for node in ast.walk(tree):
                self.assertNotIsInstance(node, NODES, path)
                if isinstance(node, ast.Constant):
                    self.assertNotIsInstance(node.value, (float, complex), path)
                    self.assertFalse(isinstance(node.value, str) and "%" in node.value, path)
                if isinstance(node, ast.Name):
                    self.assertIn(node.id, known, path)
                if isinstance(node, ast.Call) and isinstance(node.func, ast.Attribute):
                    self.assertIn(node.func.attr, methods, path)

    def test_all_files_are_python_files(self):
        for path in PACKAGE.rglob("*"):
            self.assertTrue(path.suffix == ".py" or "__pycache__" in path.parts, path)


if __name__ == "__main__":
    unittest.main()
