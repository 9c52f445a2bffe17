"""Checks of the language that the package keeps to; not all of its rules, but those that are easy to break."""

import ast
import unittest
import warnings
from pathlib import Path

PACKAGE = Path(__file__).resolve().parent.parent / "outcomepay"
FILES = sorted(path for path in PACKAGE.rglob("*.py"))
BUILTINS = set(
    "len range enumerate zip min max sum abs sorted reversed int str bool bytes list tuple dict set frozenset "
    "isinstance ord repr any all divmod pow getattr hasattr setattr iter next map super property Exception ValueError "
    "TypeError KeyError IndexError LookupError ZeroDivisionError ArithmeticError OverflowError RuntimeError "
    "NotImplementedError AttributeError StopIteration NotImplemented".split()
)
LIBRARY = {"math": {"gcd", "lcm", "isqrt", "comb", "perm", "factorial"}, "heapq": {"heappush", "heappop", "heapify"}}
METHODS = set(
    "__init__ __eq__ __repr__ __str__ __len__ __enter__ __exit__ __call__ __iter__ __ne__ __lt__ __le__ __gt__ "
    "__ge__".split()
)
BARRED = set(
    "register mro elements open input law version_info with_traceback add_note type typing enum compile dir eval exec "
    "exit globals locals vars help id quit delattr hash round format print filter".split()
)
INTERFACE = {
    "errors.py": (
        "PayError BadJob BadWork BadPay BadShare BadGroups BadOffers BadKinds BadWish BadPatience BadFired BadDraw "
        "NothingDone BadSteps BadText"
    ),
    "jobs.py": "Job gain profit wanted",
    "pays.py": "least_pay pay_cost Enough Barred",
    "choices.py": "choose best_profit Best",
    "shares.py": "turns done best_share",
    "seen.py": "see seen_cost Seen Unseen offer offer_cost Offer",
    "menus.py": "menu menu_cost Menu NoMenu best_wish",
    "wages.py": "wage least_wage Wage NoWage rule rule_wage Rule",
    "sessions.py": "Session",
    "texts.py": "job_text pay_text read_job read_pay",
}


def trees():
    return [(path.name, ast.parse(path.read_text())) for path in FILES]


def named(tree):
    """All names that a file binds or reads, with the lines where it does."""
    for node in ast.walk(tree):
        if isinstance(node, ast.Name):
            yield node.id, node.lineno
        elif isinstance(node, ast.arg):
            yield node.arg, node.lineno
        elif isinstance(node, (ast.FunctionDef, ast.ClassDef)):
            yield node.name, node.lineno


class Language(unittest.TestCase):
    def test_the_folder(self):
        found = [path for path in PACKAGE.rglob("*") if "__pycache__" not in path.parts]
        self.assertEqual([path for path in found if path.suffix != ".py"], [])
        self.assertTrue((PACKAGE / "__init__.py").exists())

    def test_characters_and_sizes(self):
        for path in FILES:
            text = path.read_bytes()
            self.assertTrue(all(each == 10 or 32 <= each <= 126 for each in text), path)
            lines = text.decode().split("\n")
            self.assertLess(len(lines), 400, path)
            self.assertLessEqual(max(map(len, lines)), 120, path)
        for name, tree in trees():
            for node in ast.walk(tree):
                if isinstance(node, ast.FunctionDef):
                    self.assertLessEqual(node.end_lineno - node.lineno + 1, 40, (name, node.name))

    def test_python_warns_of_nothing(self):
        with warnings.catch_warnings():
            warnings.simplefilter("error")
            for path in FILES:
                compile(path.read_text(), str(path), "exec")

    def test_imports(self):
        files = {path.stem: path for path in FILES}
        for name, tree in trees():
            for node in ast.walk(tree):
                self.assertNotIsInstance(node, ast.Import, name)
                if not isinstance(node, ast.ImportFrom):
                    continue
                names = {each.name for each in node.names}
                self.assertTrue(all(each.asname is None for each in node.names), name)
                if node.module in LIBRARY:
                    self.assertLessEqual(names, LIBRARY[node.module], name)
                    continue
                package, _, module = node.module.partition(".")
                self.assertEqual((package, node.level), ("outcomepay", 0), name)
                bound = {each.name for each in ast.parse(files[module].read_text()).body if hasattr(each, "name")}
                bound |= {each.targets[0].id for each in ast.parse(files[module].read_text()).body
                          if isinstance(each, ast.Assign)}
                self.assertLessEqual(names, bound, name)

    def test_no_circle_of_imports(self):
        left = {name: {node.module.partition(".")[2] + ".py" for node in tree.body
                       if isinstance(node, ast.ImportFrom) and node.module not in LIBRARY} for name, tree in trees()}
        while left:
            free = [name for name, needs in left.items() if not needs & set(left)]
            self.assertTrue(free, left)
            for name in free:
                del left[name]

    def test_module_level(self):
        for name, tree in trees():
            for node in tree.body:
                docstring = isinstance(node, ast.Expr) and isinstance(node.value, ast.Constant)
                plain = isinstance(node, (ast.ImportFrom, ast.FunctionDef, ast.ClassDef, ast.Assign))
                self.assertTrue(docstring or plain, (name, node.lineno))

    def test_forms(self):
        barred = (ast.Global, ast.AsyncFunctionDef, ast.Await, ast.Set, ast.Yield, ast.YieldFrom, ast.GeneratorExp)
        for name, tree in trees():
            for node in ast.walk(tree):
                at = (name, getattr(node, "lineno", 0))
                self.assertNotIsInstance(node, barred, at)
                self.assertFalse(isinstance(node, (ast.BinOp, ast.AugAssign)) and isinstance(node.op, ast.Div), at)
                if isinstance(node, ast.Constant):
                    self.assertNotIsInstance(node.value, (float, complex), at)
                    self.assertFalse(isinstance(node.value, str) and "%" in node.value, at)
                if isinstance(node, ast.ClassDef):
                    self.assertEqual(node.decorator_list, [], at)
                if isinstance(node, ast.FunctionDef):
                    for each in node.decorator_list:
                        self.assertEqual(getattr(each, "id", None), "property", at)
                    if node.name.startswith("__"):
                        self.assertIn(node.name, METHODS, at)

    def test_names(self):
        builtins = set(dir(__builtins__) if not isinstance(__builtins__, dict) else __builtins__)
        # A doctest that ran before leaves this name among the builtins.
        builtins.discard("_")
        for name, tree in trees():
            imported = {each.name for node in tree.body if isinstance(node, ast.ImportFrom) for each in node.names}
            imported |= {node.name for node in tree.body if isinstance(node, ast.ClassDef)}
            for word, line in named(tree):
                self.assertNotIn(word, BARRED, (name, line))
                if word in builtins:
                    self.assertIn(word, BUILTINS, (name, line))
            for node in ast.walk(tree):
                bound = None
                if isinstance(node, ast.Name) and isinstance(node.ctx, ast.Store):
                    bound = node.id
                elif isinstance(node, ast.arg):
                    bound = node.arg
                if bound is not None:
                    self.assertNotIn(bound, imported | builtins, (name, node.lineno))

    def test_the_interface_stands_where_it_is_listed(self):
        for name, words in INTERFACE.items():
            body = ast.parse((PACKAGE / name).read_text()).body
            found = {node.name for node in body if isinstance(node, (ast.FunctionDef, ast.ClassDef))}
            self.assertLessEqual(set(words.split()), found)


if __name__ == "__main__":
    unittest.main()
