"""How the program is written: the rules of LANGUAGE.md that a look at the code can tell."""

import ast
import builtins
import pathlib
import re
import unittest

FOLDER = pathlib.Path(__file__).resolve().parent.parent / "betweencoats"

ALLOWED_BUILTINS = set((
    "len range enumerate zip min max sum abs sorted reversed int str bool list tuple dict set isinstance ord repr "
    "any all divmod ValueError KeyError IndexError ZeroDivisionError"
).split())
# What may be imported from the library.
LIBRARY = {"math": {"comb", "gcd"}}
BARRED = set((
    "register mro elements open input law version_info with_traceback add_note attrgetter breakpoint builtins compile "
    "copyright credits delattr dir eval exec exit gc getattr globals hasattr help id importlib license locals "
    "methodcaller os quit setattr super type vars sys __name__ typing enum dataclass namedtuple"
).split())
METHODS = set((
    "append clear copy count endswith extend find get index insert isalnum isalpha isdigit islower isspace isupper "
    "items join keys ljust lower lstrip partition pop remove replace reverse rfind rjust rpartition rsplit rstrip "
    "setdefault split splitlines startswith strip update upper values zfill bit_length add discard"
).split())
BARRED_NODES = (
    ast.Lambda, ast.GeneratorExp, ast.Yield, ast.YieldFrom, ast.AsyncFunctionDef, ast.Await, ast.Global, ast.Nonlocal,
    ast.With, ast.Try, ast.Div, ast.Starred, ast.NamedExpr, ast.Import, ast.Delete, ast.Match,
)


def files():
    return sorted(FOLDER.glob("*.py"))


def trees():
    return [(path, ast.parse(path.read_text(encoding="utf-8"))) for path in files()]


def bound_names(function):
    """The parameters and local variables of a function."""
    names = [node.arg for node in ast.walk(function) if isinstance(node, ast.arg)]
    return names + [node.id for node in ast.walk(function)
                    if isinstance(node, ast.Name) and isinstance(node.ctx, ast.Store)]


def top_names(tree):
    """What stands at module level: (imports, classes, functions, plain names)."""
    imports = [alias.name for node in tree.body if isinstance(node, ast.ImportFrom) for alias in node.names]
    classes = [node.name for node in tree.body if isinstance(node, ast.ClassDef)]
    functions = [node.name for node in tree.body if isinstance(node, ast.FunctionDef)]
    plain = [node.targets[0].id for node in tree.body if isinstance(node, ast.Assign)]
    return imports, classes, functions, plain


class Language(unittest.TestCase):

    def test_characters_and_sizes(self):
        for path in files():
            text = path.read_text(encoding="utf-8")
            self.assertTrue(all(char == "\n" or " " <= char <= "~" for char in text), path)
            lines = text.split("\n")
            self.assertLessEqual(len(lines), 399, path)
            self.assertLessEqual(max(len(line) for line in lines), 120, path)
        self.assertLessEqual(len(files()), 100)

    def test_file_names(self):
        for path in files():
            self.assertTrue(re.fullmatch(r"[a-z][a-z0-9]*|__init__", path.stem), path)
            self.assertNotIn(path.stem, dir(builtins))

    def test_function_sizes(self):
        for path, tree in trees():
            for node in ast.walk(tree):
                if isinstance(node, ast.FunctionDef):
                    self.assertLessEqual(node.end_lineno - node.lineno + 1, 40, (path, node.name))
                    self.assertEqual(node.decorator_list, [], (path, node.name))

    def test_module_level(self):
        kinds = (ast.ImportFrom, ast.ClassDef, ast.FunctionDef, ast.Assign, ast.Expr)
        for path, tree in trees():
            self.assertIsNotNone(ast.get_docstring(tree), path)
            for node in tree.body:
                self.assertIsInstance(node, kinds, path)
                if isinstance(node, ast.Assign):
                    ast.literal_eval(node.value)
            for node in tree.body[1:]:
                self.assertNotIsInstance(node, ast.Expr, path)
            flat = [name for names in top_names(tree) for name in names]
            self.assertEqual(len(flat), len(set(flat)), path)

    def test_imports_name_the_defining_file_and_make_no_circle(self):
        defined = {path.stem: sum(top_names(tree)[1:], []) for path, tree in trees()}
        uses = {path.stem: set() for path in files()}
        for path, tree in trees():
            for node in ast.walk(tree):
                if isinstance(node, ast.ImportFrom) and node.module in LIBRARY:
                    self.assertLessEqual({alias.name for alias in node.names}, LIBRARY[node.module], path)
                    self.assertTrue(all(alias.asname is None for alias in node.names), path)
                elif isinstance(node, ast.ImportFrom):
                    package, _, file = node.module.partition(".")
                    self.assertEqual((package, node.level), ("betweencoats", 0), path)
                    uses[path.stem].add(file)
                    for alias in node.names:
                        self.assertIsNone(alias.asname, path)
                        self.assertIn(alias.name, defined[file], path)
        while uses:
            free = [file for file, others in uses.items() if not others & set(uses)]
            self.assertNotEqual(free, [], uses)
            for file in free:
                del uses[file]

    def test_the_library_is_called_at_once(self):
        for path, tree in trees():
            for node in ast.walk(tree):
                if isinstance(node, ast.ImportFrom) and node.module in LIBRARY:
                    names = {alias.name for alias in node.names}
                    called = [part.func for part in ast.walk(tree) if isinstance(part, ast.Call)]
                    for part in ast.walk(tree):
                        if isinstance(part, ast.Name) and part.id in names:
                            self.assertIn(part, called, path)

    def test_every_import_is_used(self):
        for path, tree in trees():
            used = {node.id for node in ast.walk(tree) if isinstance(node, ast.Name)}
            for name in top_names(tree)[0]:
                self.assertIn(name, used, path)

    def test_statements_and_expressions(self):
        for path, tree in trees():
            for node in ast.walk(tree):
                self.assertNotIsInstance(node, BARRED_NODES, path)
                if isinstance(node, ast.Constant):
                    self.assertNotIsInstance(node.value, (float, complex), path)

    def test_names(self):
        for path, tree in trees():
            imports, classes, _, _ = top_names(tree)
            for node in ast.walk(tree):
                if isinstance(node, ast.FunctionDef):
                    for name in bound_names(node):
                        self.assertNotIn(name, dir(builtins), path)
                        self.assertNotIn(name, imports + classes, path)
                        self.assertFalse(name.startswith("__"), path)
                    self.assertNotIn(node.name, dir(builtins), path)
                for name in (getattr(node, "id", ""), getattr(node, "attr", ""), getattr(node, "name", "")):
                    self.assertNotIn(name, BARRED, path)
                if isinstance(node, ast.Name) and node.id == "_":
                    self.assertIsInstance(node.ctx, ast.Store, path)

    def test_calls(self):
        own = {name for _, tree in trees() for names in top_names(tree) for name in names}
        methods = {node.name for _, tree in trees() for part in tree.body if isinstance(part, ast.ClassDef)
                   for node in part.body if isinstance(node, ast.FunctionDef)}
        for path, tree in trees():
            # Functions that are handed in.
            handed = {node.arg for node in ast.walk(tree) if isinstance(node, ast.arg)} & {"plus", "times"}
            for node in ast.walk(tree):
                if isinstance(node, ast.Call) and isinstance(node.func, ast.Name):
                    self.assertIn(node.func.id, ALLOWED_BUILTINS | own | handed, path)
                elif isinstance(node, ast.Call):
                    self.assertIn(node.func.attr, METHODS | methods, path)

    def test_loops_do_not_change_what_they_go_over(self):
        for path, tree in trees():
            for node in ast.walk(tree):
                if isinstance(node, ast.For):
                    over = {part.id for part in ast.walk(node.iter) if isinstance(part, ast.Name)}
                    for part in ast.walk(node):
                        if isinstance(part, ast.Call) and isinstance(part.func, ast.Attribute):
                            if isinstance(part.func.value, ast.Name) and part.func.attr not in ("items", "keys"):
                                self.assertNotIn(part.func.value.id, over, (path, node.lineno))
                        if isinstance(part, ast.Subscript) and isinstance(part.ctx, ast.Store):
                            self.assertNotIn(getattr(part.value, "id", None), over, (path, node.lineno))


if __name__ == "__main__":
    unittest.main()
