"""Tests of some rules of the language that the package is written in."""

import ast
import builtins
import pathlib
import unittest

PACKAGE = pathlib.Path(__file__).resolve().parent.parent / "stepwright"
LIBRARY = {
    "heapq": ("heappush", "heappop", "heapify", "heapreplace", "heappushpop"),
    "math": ("gcd", "lcm", "isqrt", "comb", "perm", "factorial"),
    "itertools": (
        "product", "combinations", "permutations",
        "chain", "accumulate", "pairwise", "islice", "zip_longest",
    ),
    "collections": ("defaultdict", "deque"),
}
BUILTINS = (
    "len", "range", "enumerate", "zip", "min", "max", "sum", "abs", "sorted", "reversed", "int", "str", "bool", "list",
    "tuple", "dict", "set", "isinstance", "ord", "any", "all", "divmod", "ValueError",
)
FILES = sorted(path for path in PACKAGE.rglob("*") if path.is_file() and "__pycache__" not in path.parts)
TEXTS = {path.name: path.read_text(encoding="utf-8") for path in FILES}


def nodes_of(text):
    return ast.walk(ast.parse(text))


class FormTests(unittest.TestCase):
    def test_the_package_holds_its_files_and_nothing_else(self):
        self.assertIn(PACKAGE / "__init__.py", FILES)
        self.assertLessEqual(len(FILES), 100)
        for path in FILES:
            self.assertEqual(path.suffix, ".py", path)
            self.assertFalse(path.name.startswith("test"), path)

    def test_files_lines_and_functions_are_short(self):
        for name, text in TEXTS.items():
            rows = text.split("\n")
            self.assertLess(len(rows), 400, name)
            self.assertLessEqual(max(len(row) for row in rows), 120, name)
            for node in nodes_of(text):
                if isinstance(node, ast.FunctionDef):
                    self.assertLessEqual(node.end_lineno - node.lineno + 1, 40, node.name)

    def test_signs_are_plain(self):
        for name, text in TEXTS.items():
            self.assertTrue(all(sign == "\n" or " " <= sign <= "~" for sign in text), name)

    def test_imports_are_the_packages_own_or_the_allowed_words(self):
        for name, text in TEXTS.items():
            for node in nodes_of(text):
                self.assertNotIsInstance(node, ast.Import, name)
                if isinstance(node, ast.ImportFrom):
                    self.assertEqual(node.level, 0, name)
                    if not node.module.startswith("stepwright."):
                        words = set(word.name for word in node.names)
                        self.assertLessEqual(words, set(LIBRARY.get(node.module, ())), name)

    def test_no_name_means_two_things(self):
        for name, text in TEXTS.items():
            whole = ast.parse(text)
            taken = set(dir(builtins))
            for node in whole.body:
                if isinstance(node, ast.ImportFrom):
                    taken |= set(word.name for word in node.names)
                if isinstance(node, ast.ClassDef):
                    taken.add(node.name)
            for node in ast.walk(whole):
                if isinstance(node, ast.Name) and isinstance(node.ctx, ast.Store):
                    self.assertNotIn(node.id, taken, name)
                if isinstance(node, ast.arg):
                    self.assertNotIn(node.arg, taken, name)
            for node in whole.body:
                if isinstance(node, ast.FunctionDef):
                    self.assertNotIn(node.name, taken, name)

    def test_no_two_files_import_from_each_other(self):
        asks = {}
        for name, text in TEXTS.items():
            heads = [node.module for node in nodes_of(text) if isinstance(node, ast.ImportFrom)]
            asks[name] = [head.removeprefix("stepwright.") + ".py" for head in heads if head.startswith("stepwright.")]
        while asks:
            free = [name for name in asks if not any(other in asks for other in asks[name])]
            self.assertTrue(free, asks)
            for name in free:
                del asks[name]

    def test_exponents_are_literals(self):
        for name, text in TEXTS.items():
            for node in nodes_of(text):
                if isinstance(node, ast.BinOp) and isinstance(node.op, ast.Pow):
                    self.assertIsInstance(node.right, ast.Constant, name)

    def test_no_float_and_no_broken_division(self):
        for name, text in TEXTS.items():
            for node in nodes_of(text):
                self.assertNotIsInstance(node, (ast.Div, ast.AsyncFunctionDef), name)
                if isinstance(node, ast.Constant):
                    self.assertNotIsInstance(node.value, (float, complex), name)

    def test_no_other_builtins(self):
        for name, text in TEXTS.items():
            for node in nodes_of(text):
                if isinstance(node, ast.Name) and node.id in dir(builtins):
                    self.assertIn(node.id, BUILTINS, name)

    def test_no_sign_of_shares_in_strings(self):
        for name, text in TEXTS.items():
            for node in nodes_of(text):
                if isinstance(node, ast.Constant) and isinstance(node.value, str):
                    self.assertNotIn("%", node.value, name)

    def test_every_file_class_and_function_says_what_it_is(self):
        for name, text in TEXTS.items():
            for node in nodes_of(text):
                if isinstance(node, (ast.Module, ast.ClassDef, ast.FunctionDef)):
                    label = getattr(node, "name", name)
                    # What is handed to an __init__ is told by its class.
                    self.assertTrue(label == "__init__" or ast.get_docstring(node), label)


if __name__ == "__main__":
    unittest.main()
