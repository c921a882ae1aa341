"""The rules of the language subset that a short program can see: files, sizes, characters, imports and builtins."""

import ast
import builtins
import os
import unittest

FOLDER = os.path.join(os.path.dirname(os.path.dirname(os.path.abspath(__file__))), "traproom")
LIBRARY = {
    "heapq": {"heappush", "heappop", "heapify", "heapreplace", "heappushpop"},
    "math": {"gcd", "lcm", "isqrt", "comb", "perm", "factorial"},
    "itertools": {"product", "combinations", "permutations", "chain", "accumulate", "pairwise", "islice",
                  "zip_longest"},
    "collections": {"defaultdict", "deque"},
}
BUILTINS = set(
    "len range enumerate zip min max sum abs sorted reversed int str bool list tuple dict set isinstance ord repr any "
    "all divmod pow map iter next super property staticmethod classmethod type Exception ValueError TypeError KeyError "
    "IndexError LookupError ZeroDivisionError ArithmeticError OverflowError RuntimeError NotImplementedError "
    "AttributeError StopIteration NotImplemented".split()
)


def sources():
    for name in sorted(os.listdir(FOLDER)):
        if name != "__pycache__":
            with open(os.path.join(FOLDER, name), encoding="utf-8") as file:
                yield name, file.read()


class LanguageTest(unittest.TestCase):
    def test_files(self):
        names = [name for name, _ in sources()]
        self.assertIn("__init__.py", names)
        for name in names:
            self.assertRegex(name, r"^[a-z0-9_]+\.py$")

    def test_characters_and_sizes(self):
        for name, text in sources():
            lines = text.split("\n")
            self.assertLessEqual(len(lines), 399, name)
            self.assertTrue(text.endswith("\n"), name)
            for line in lines:
                self.assertLessEqual(len(line), 120, name)
                self.assertTrue(all(" " <= sign <= "~" for sign in line), (name, line))
            for node in ast.walk(ast.parse(text)):
                if isinstance(node, ast.FunctionDef):
                    self.assertLessEqual(node.end_lineno - node.lineno + 1, 40, (name, node.name))

    def test_imports(self):
        for name, text in sources():
            for node in ast.walk(ast.parse(text)):
                self.assertNotIsInstance(node, ast.Import, name)
                if isinstance(node, ast.ImportFrom):
                    self.assertEqual(node.level, 0, name)
                    words = {one.name for one in node.names}
                    if node.module in LIBRARY:
                        self.assertLessEqual(words, LIBRARY[node.module], name)
                    else:
                        self.assertRegex(node.module, r"^traproom\.[a-z_]+$", name)

    def test_imported_names_are_used_and_mean_nothing_else(self):
        for name, text in sources():
            tree = ast.parse(text)
            words = {one.name for node in ast.walk(tree) if isinstance(node, ast.ImportFrom) for one in node.names}
            read = {node.id for node in ast.walk(tree) if isinstance(node, ast.Name) and isinstance(node.ctx, ast.Load)}
            bound = {node.id for node in ast.walk(tree)
                     if isinstance(node, ast.Name) and isinstance(node.ctx, ast.Store)}
            bound |= {node.arg for node in ast.walk(tree) if isinstance(node, ast.arg)}
            self.assertEqual(words - read, set(), name)
            self.assertEqual(words & bound, set(), name)

    def test_no_import_leads_back(self):
        leads = {}
        for name, text in sources():
            leads["traproom." + name[:-3]] = {node.module for node in ast.walk(ast.parse(text))
                                              if isinstance(node, ast.ImportFrom) and node.module not in LIBRARY}
        while leads:
            last = [name for name, others in leads.items() if not others & set(leads)]
            self.assertNotEqual(last, [], leads)
            leads = {name: others for name, others in leads.items() if name not in last}

    def test_no_generators_and_no_decorators(self):
        for name, text in sources():
            for node in ast.walk(ast.parse(text)):
                self.assertNotIsInstance(node, (ast.GeneratorExp, ast.Yield, ast.YieldFrom, ast.Global), name)
                self.assertEqual(getattr(node, "decorator_list", []), [], name)

    def test_no_fractions_but_the_own_ones(self):
        for name, text in sources():
            for node in ast.walk(ast.parse(text)):
                self.assertNotIsInstance(node, ast.Div, name)
                if isinstance(node, ast.Constant):
                    self.assertNotIsInstance(node.value, (float, complex), name)

    def test_builtins(self):
        for name, text in sources():
            for node in ast.walk(ast.parse(text)):
                if isinstance(node, ast.Name) and hasattr(builtins, node.id):
                    self.assertIn(node.id, BUILTINS, name)
                    self.assertIsInstance(node.ctx, ast.Load, (name, node.id))
                if isinstance(node, ast.arg):
                    self.assertFalse(hasattr(builtins, node.arg), (name, node.arg))


if __name__ == "__main__":
    unittest.main()
