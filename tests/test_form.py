"""The form of the package: sizes, characters, imports and words that ../shared/LANGUAGE.md asks for."""

import ast
import re
import unittest
from pathlib import Path

PACKAGE = Path(__file__).resolve().parent.parent / "missingmiles"
BUILTINS = set("""len range enumerate zip min max sum abs sorted reversed int str bool list tuple dict set isinstance
    ord repr any all divmod Exception ValueError TypeError KeyError IndexError LookupError map iter next super property
    staticmethod""".split())
ALL_BUILTINS = set(dir(__builtins__)) if not isinstance(__builtins__, dict) else set(__builtins__)
LIBRARY = {"heapq": {"heappush", "heappop", "heapify", "heapreplace", "heappushpop"},
           "math": {"gcd", "lcm", "isqrt", "comb", "perm", "factorial"},
           "itertools": {"product", "combinations", "permutations"}}
BARRED_NODES = (ast.GeneratorExp, ast.Global, ast.AsyncFunctionDef, ast.Import, ast.AnnAssign, ast.SetComp, ast.Set)
BARRED_NAMES = {"register", "mro", "elements", "open", "input", "law", "dir", "id", "vars", "hash", "type", "compile"}
BARRED_WORDS = """type typing typing_extensions enum Enum IntEnum StrEnum Flag IntFlag Generic Protocol ABC ABCMeta
    namedtuple NamedTuple TypedDict TYPE_CHECKING abstractmethod""".split()
DOUBLE = {"__init__", "__eq__", "__repr__", "__len__", "__bool__", "__contains__", "__add__", "__mul__", "__call__"}

# The entries of the interface that have been built: module, then classes with their methods, then functions.
INTERFACE = {
    "errors": ({"MilesError": [], "Missing": [], "NothingLeft": ["__init__"], "InvalidRatio": ["__init__"]}, []),
    "ratios": ({}, ["ratio", "ratio_of", "is_ratio", "is_number", "added", "multiplied", "is_less", "ratio_text",
                    "read_ratio"]),
    "words": ({}, ["is_name", "is_layer"]),
    "straight": ({
        "Problem": ["__init__", "size", "rows", "row_with", "keeps", "solve", "greatest", "__len__", "__bool__",
                    "__eq__", "__repr__"],
        "Answer": ["__init__", "problem", "told", "holds", "__bool__", "__repr__"],
        "Solved": ["__init__", "numbers", "holds"], "Barred": ["__init__", "weights", "holds"],
        "Top": ["__init__", "factors", "weights", "told", "holds"],
        "Endless": ["__init__", "factors", "direction", "holds"],
    }, []),
    "worlds": ({"World": ["__init__", "size", "layers", "names", "place", "table", "far", "part", "grown",
                          "__contains__", "__len__", "__bool__", "__eq__", "__repr__"]}, []),
    "steps": ({}, ["is_leaf", "changed"]),
    "texts": ({}, ["text_of", "read_steps"]),
    "scripts": ({"Script": ["__init__", "layers", "tests", "puts", "names", "ends", "steps", "text", "without",
                            "swapped", "read", "__add__", "__mul__", "__eq__", "__len__", "__bool__", "__repr__"]},
                ["run", "trace"]),
    "forms": ({"Form": ["__init__", "constant", "parts", "factor", "value", "text", "is_under", "__add__", "__mul__",
                        "__eq__", "__bool__", "__repr__"]}, ["plain_forms"]),
    "cases": ({"Case": ["rows", "points", "forms", "__repr__"]}, ["cases", "triangles"]),
    "facts": ({}, ["is_fact", "fact_row", "keeps", "survey_problem", "survey", "extreme", "surely"]),
    "means": ({"Mean": ["__init__", "weights", "sums", "shows", "is_void", "__eq__", "__repr__"]}, []),
    "verdicts": ({
        "Verdict": ["__init__", "one", "other", "told", "holds", "__bool__", "__repr__"],
        "Alike": ["__init__", "rows", "facts", "told", "holds", "__bool__"],
        "Parted": ["__init__", "world", "distances", "holds"], "Exceeds": ["__init__", "holds"],
    }, []),
    "comparing": ({}, ["compare", "are_alike", "never_longer"]),
    "lists": ({"ShortList": ["__init__", "source", "forms", "worlds", "holds", "__len__", "__bool__", "__repr__"]},
              ["shortest"]),
    "amounts": ({"Amount": ["__init__", "told", "holds"], "Growing": ["__init__", "growth", "slopes", "holds"]},
                ["most_over", "most_saved"]),
    "claims": ({}, ["needless", "exchangeable", "settles"]),
    "journeys": ({"Journey": ["__init__", "go", "undo", "redo", "world", "busy", "history", "log", "stations", "gains",
                              "twin", "__len__", "__bool__", "__repr__"]}, []),
    "atlases": ({"Atlas": ["__init__", "layers", "limit", "set_limit", "names", "words", "apply", "undo", "redo",
                           "history", "busy", "script", "facts", "alike", "kept", "computed", "__contains__", "__len__",
                           "__bool__", "__eq__", "__repr__", "twin"]}, []),
    "pages": ({}, ["write_page", "read_page"]),
    "desk": ({"Desk": ["__init__", "say", "__call__", "atlas", "log", "__len__", "__bool__", "__repr__"]}, []),
}


def files():
    return sorted(PACKAGE.rglob("*.py"))


def tree_of(path):
    return ast.parse(path.read_text())


def nodes():
    for path in files():
        for node in ast.walk(tree_of(path)):
            yield path.name, node


class Form(unittest.TestCase):
    def test_nothing_but_files_of_the_language(self):
        found = [path for path in PACKAGE.rglob("*") if path.suffix != ".py" and "__pycache__" not in path.parts]
        self.assertEqual(found, [])
        self.assertTrue((PACKAGE / "__init__.py").exists())

    def test_characters_and_sizes(self):
        for path in files():
            text = path.read_text()
            self.assertTrue(all(char == "\n" or " " <= char <= "~" for char in text), path.name)
            rows = text.split("\n")
            self.assertLessEqual(len(rows), 399, path.name)
            self.assertEqual([row for row in rows if len(row) > 120 or row != row.rstrip()], [], path.name)

    def test_sizes_of_functions(self):
        for name, node in nodes():
            if isinstance(node, ast.FunctionDef):
                self.assertLessEqual(node.end_lineno - node.lineno + 1, 40, f"{name} {node.name}")
                if node.name.startswith("__"):
                    self.assertIn(node.name, DOUBLE, name)

    def test_imports(self):
        for name, node in nodes():
            if isinstance(node, ast.ImportFrom):
                imported = {alias.name for alias in node.names}
                self.assertTrue(all(alias.asname is None for alias in node.names), name)
                if node.module in LIBRARY:
                    self.assertLessEqual(imported, LIBRARY[node.module], name)
                    continue
                package, module = node.module.split(".")
                self.assertEqual((node.level, package), (0, PACKAGE.name), name)
                self.assertLessEqual(imported, self.bound(tree_of(PACKAGE / f"{module}.py")), name)

    def bound(self, tree):
        names = {node.name for node in tree.body if isinstance(node, (ast.FunctionDef, ast.ClassDef))}
        return names | {node.targets[0].id for node in tree.body if isinstance(node, ast.Assign)}

    def test_statements_and_words(self):
        for name, node in nodes():
            self.assertNotIsInstance(node, BARRED_NODES, f"{name} {getattr(node, 'lineno', '')}")
            if isinstance(node, ast.Name):
                self.assertNotIn(node.id, BARRED_NAMES, name)
                if node.id in ALL_BUILTINS:
                    self.assertIn(node.id, BUILTINS, name)
                    self.assertIsInstance(node.ctx, ast.Load, name)
            if isinstance(node, ast.arg):
                self.assertNotIn(node.arg, ALL_BUILTINS | BARRED_NAMES, name)
            if isinstance(node, ast.Constant):
                self.assertNotIsInstance(node.value, (float, complex), name)
                self.assertNotIn("%", str(node.value), name)
            if isinstance(node, ast.BinOp):
                self.assertNotIsInstance(node.op, ast.Div, name)

    def test_words_that_do_not_occur(self):
        for path in files():
            text = path.read_text()
            self.assertEqual([word for word in BARRED_WORDS if re.search(rf"\b{word}\b", text)], [], path.name)
            self.assertIsNone(re.search("dataclass|overload|contextmanager|_wall", text), path.name)

    def test_interface_stands_in_its_files(self):
        for module, (classes, functions) in INTERFACE.items():
            tree = tree_of(PACKAGE / f"{module}.py")
            defined = [node.name for node in tree.body if isinstance(node, ast.FunctionDef)]
            self.assertLessEqual(set(functions), set(defined), module)
            bodies = {node.name: node.body for node in tree.body if isinstance(node, ast.ClassDef)}
            for name, methods in classes.items():
                found = [node.name for node in bodies[name] if isinstance(node, ast.FunctionDef)]
                self.assertLessEqual(set(methods), set(found), name)


if __name__ == "__main__":
    unittest.main()
