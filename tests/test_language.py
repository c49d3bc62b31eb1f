"""Tests of some rules of LANGUAGE.md that a look at the code can settle."""

import ast
import builtins
import os
import unittest

HERE = os.path.dirname(os.path.abspath(__file__))
PACKAGE = os.path.join(os.path.dirname(HERE), "prepaidplans")

LIBRARY = {
    "math": {"gcd", "lcm", "isqrt", "comb", "perm", "factorial"},
    "heapq": {"heappush", "heappop", "heapify", "heapreplace", "heappushpop"},
    "itertools": {"product", "combinations", "permutations"},
}

BUILTINS = """len range enumerate zip min max sum abs sorted reversed int str bool list tuple dict set isinstance ord
repr any all divmod pow map iter next type ValueError TypeError KeyError IndexError LookupError ZeroDivisionError
NotImplemented super property staticmethod classmethod""".split()

DUNDERS = """__init__ __eq__ __repr__ __str__ __len__ __lt__ __le__ __gt__ __ge__ __ne__ __add__ __sub__ __mul__
__contains__ __bool__ __call__""".split()

# A generator expression may stand in few places only, since Row has operators: a list can stand in all of them.
FORBIDDEN = (ast.GeneratorExp, ast.Global, ast.AsyncFunctionDef, ast.Await, ast.Div)


def files():
    """Return all (name, text) of the package."""
    found = []
    for name in sorted(os.listdir(PACKAGE)):
        if name != "__pycache__":
            with open(os.path.join(PACKAGE, name), encoding="utf-8") as file:
                found.append((name, file.read()))
    return found


def nodes():
    return [(name, node) for name, text in files() for node in ast.walk(ast.parse(text))]


class LanguageTest(unittest.TestCase):
    def test_files(self):
        for name, text in files():
            self.assertRegex(name, "^[a-z_]+[.]py$")
            self.assertTrue(all(sign == "\n" or " " <= sign <= "~" for sign in text), name)
            lines = text.split("\n")
            self.assertLess(len(lines), 400, name)
            self.assertLessEqual(max(len(line) for line in lines), 120, name)

    def test_functions_have_at_most_40_lines(self):
        for name, node in nodes():
            if isinstance(node, ast.FunctionDef):
                self.assertLessEqual(node.end_lineno - node.lineno + 1, 40, (name, node.name))
                self.assertTrue(not node.name.startswith("__") or node.name in DUNDERS, (name, node.name))

    def test_imports(self):
        for name, node in nodes():
            self.assertNotIsInstance(node, ast.Import, name)
            if isinstance(node, ast.ImportFrom):
                self.assertEqual(node.level, 0, name)
                if node.module.split(".")[0] != "prepaidplans":
                    self.assertLessEqual({one.name for one in node.names}, LIBRARY[node.module], name)

    def test_modules_do_not_import_each_other_round(self):
        needs = {name[:-3]: [node.module.split(".")[1] for node in ast.walk(ast.parse(text))
                             if isinstance(node, ast.ImportFrom) and node.module.startswith("prepaidplans.")]
                 for name, text in files()}
        while needs:
            free = [name for name in needs if not any(other in needs for other in needs[name])]
            self.assertTrue(free, sorted(needs))
            needs = {name: needs[name] for name in needs if name not in free}

    def test_words(self):
        for name, node in nodes():
            self.assertNotIsInstance(node, FORBIDDEN, name)
            if isinstance(node, ast.Constant):
                self.assertNotIsInstance(node.value, (float, complex), name)
            # What doctest shows it keeps as a builtin _.
            if isinstance(node, ast.Name) and node.id != "_" and hasattr(builtins, node.id):
                self.assertIn(node.id, BUILTINS, name)
            if isinstance(node, (ast.FunctionDef, ast.ClassDef)) and node.name not in DUNDERS:
                self.assertFalse(hasattr(builtins, node.name), (name, node.name))


if __name__ == "__main__":
    unittest.main()
