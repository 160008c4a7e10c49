"""What can be seen at once of LANGUAGE.md: files, sizes, characters, imports, names, operators."""

import ast
import builtins
import os
import re
import unittest

PACKAGE = os.path.join(os.path.dirname(os.path.dirname(os.path.abspath(__file__))), "edenrow")
LIBRARY = {
    "heapq": {"heappush", "heappop", "heapify", "heapreplace", "heappushpop"},
    "math": {"gcd", "lcm", "isqrt", "comb", "perm", "factorial"},
    "itertools": {
        "product", "combinations", "permutations",
        "chain", "accumulate", "pairwise", "islice", "zip_longest",
    },
    "collections": {"defaultdict"},
    "__future__": {"annotations"},
}
BUILTINS = set(
    "len range enumerate zip min max sum abs sorted reversed int str bool list tuple dict set frozenset"
    " isinstance ord repr any all divmod pow getattr hasattr setattr iter next map super property"
    " staticmethod classmethod object Exception ValueError TypeError KeyError IndexError LookupError"
    " ZeroDivisionError ArithmeticError OverflowError RuntimeError NotImplementedError AttributeError"
    " StopIteration NotImplemented".split()
)


def sources():
    """The name, the text and the tree of each file of the package."""
    for name in sorted(os.listdir(PACKAGE)):
        if name.endswith(".py"):
            with open(os.path.join(PACKAGE, name), encoding="utf-8") as file:
                text = file.read()
            yield name, text, ast.parse(text)


class LanguageTest(unittest.TestCase):
    def test_files(self):
        names = [name for name in os.listdir(PACKAGE) if name != "__pycache__"]
        self.assertIn("__init__.py", names)
        self.assertLessEqual(len(names), 100)
        for name in names:
            self.assertRegex(name, r"^[a-z0-9_]+\.py$")

    def test_sizes_and_characters(self):
        for name, text, tree in sources():
            lines = text.split("\n")
            self.assertLessEqual(len(lines) - 1, 399, name)
            for at, line in enumerate(lines, 1):
                self.assertLessEqual(len(line), 120, (name, at))
                self.assertRegex(line, r"^[ -~]*$", (name, at))
            for node in ast.walk(tree):
                if isinstance(node, ast.FunctionDef):
                    self.assertLessEqual(node.end_lineno - node.lineno + 1, 40, (name, node.name))

    def test_imports(self):
        for name, _, tree in sources():
            for node in ast.walk(tree):
                self.assertNotIsInstance(node, ast.Import, name)
                if isinstance(node, ast.ImportFrom):
                    self.assertEqual(node.level, 0, name)
                    names = {alias.name for alias in node.names}
                    if node.module in LIBRARY:
                        self.assertLessEqual(names, LIBRARY[node.module], name)
                    else:
                        self.assertRegex(node.module, r"^edenrow\.[a-z0-9_]+$", name)
                        self.assertNotIn("*", names, name)

    def test_module_level(self):
        allowed = (ast.Expr, ast.ImportFrom, ast.FunctionDef, ast.ClassDef, ast.Assign)
        for name, _, tree in sources():
            for node in tree.body:
                self.assertIsInstance(node, allowed, name)
                if isinstance(node, ast.Expr):
                    self.assertIsInstance(node.value.value, str, name)

    def test_names(self):
        for name, _, tree in sources():
            bound = set()
            used = set()
            for node in ast.walk(tree):
                if isinstance(node, ast.Name):
                    (used if isinstance(node.ctx, ast.Load) else bound).add(node.id)
                elif isinstance(node, (ast.FunctionDef, ast.ClassDef)):
                    bound.add(node.name)
                elif isinstance(node, ast.arg):
                    bound.add(node.arg)
            # The methods of classes; and a doctest that has run before leaves a `_` among the builtins.
            bound -= {"__init__", "_"}
            self.assertEqual([word for word in sorted(bound) if hasattr(builtins, word)], [], name)
            outside = [word for word in sorted(used - bound) if hasattr(builtins, word)]
            self.assertLessEqual(set(outside), BUILTINS, name)
            self.assertNotIn("_", used, name)

    def test_values(self):
        for name, text, tree in sources():
            for node in ast.walk(tree):
                self.assertNotIsInstance(node, (ast.Div, ast.Global, ast.AsyncFunctionDef), name)
                if isinstance(node, ast.Constant):
                    self.assertNotIsInstance(node.value, (float, complex), name)
                    if isinstance(node.value, str):
                        self.assertIsNone(re.search("%", node.value), name)


if __name__ == "__main__":
    unittest.main()
