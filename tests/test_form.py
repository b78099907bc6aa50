"""The form of the code of the package: what of the rules of the language can be counted or listed."""

import ast
import builtins
import pathlib
import re
import unittest

FOLDER = pathlib.Path(__file__).resolve().parent.parent / "threesfit"
FILES = sorted(FOLDER.glob("*.py"))
BUILTINS = set("""len range enumerate zip min max sum abs sorted reversed int str bool bytes list tuple dict set isinstance
    ord repr any all divmod Exception""".split())
METHODS = set("""append clear copy count endswith extend find get index insert isalnum isalpha isdigit islower isspace
    isupper items join keys ljust lower lstrip partition pop remove replace reverse rfind rjust rpartition rsplit rstrip
    setdefault split splitlines startswith strip update upper values zfill bit_length add discard sort""".split())
LIBRARY = {"itertools": {"product", "combinations", "permutations"}, "math": {"gcd", "lcm", "comb", "factorial"}}
BARRED = re.compile(r"\b(type|typing|enum|Enum|namedtuple|abstractmethod|ABC|Protocol|Generic)\b")


def tree_of(file):
    return ast.parse(file.read_text(encoding="ascii"))


def nodes(kind):
    for file in FILES:
        for node in ast.walk(tree_of(file)):
            if isinstance(node, kind):
                yield file.name, node


class FormTests(unittest.TestCase):
    def test_folder(self):
        self.assertTrue((FOLDER / "__init__.py").is_file())
        for path in FOLDER.iterdir():
            self.assertTrue(re.fullmatch(r"[a-z0-9_]+\.py", path.name) or path.name == "__pycache__", path)

    def test_sizes(self):
        for file in FILES:
            text = file.read_text(encoding="ascii")
            self.assertTrue(all(sign == "\n" or " " <= sign <= "~" for sign in text), file)
            self.assertLessEqual(len(text.split("\n")), 400, file)
            self.assertLessEqual(max(len(line) for line in text.split("\n")), 120, file)
        for file, node in nodes(ast.FunctionDef):
            self.assertLessEqual(node.end_lineno - node.lineno + 1, 40, (file, node.name))
            self.assertEqual(node.decorator_list, [])

    def test_module_level(self):
        allowed = (ast.ImportFrom, ast.FunctionDef, ast.ClassDef, ast.Assign, ast.Expr)
        for file in FILES:
            bound = []
            for node in tree_of(file).body:
                self.assertIsInstance(node, allowed, (file, node.lineno))
                if isinstance(node, ast.Expr):
                    self.assertIsInstance(node.value.value, str)
                if isinstance(node, (ast.FunctionDef, ast.ClassDef)):
                    bound.append(node.name)
                if isinstance(node, ast.ImportFrom):
                    bound.extend(one.name for one in node.names)
                if isinstance(node, ast.Assign):
                    bound.append(node.targets[0].id)
            self.assertEqual(len(bound), len(set(bound)), file)

    def test_imports(self):
        reach = {file.stem: set() for file in FILES}
        self.assertEqual([node for _, node in nodes(ast.Import)], [])
        for file, node in nodes(ast.ImportFrom):
            names = {one.name for one in node.names}
            self.assertEqual((node.level, {one.asname for one in node.names}), (0, {None}))
            if node.module in LIBRARY:
                self.assertLessEqual(names, LIBRARY[node.module], file)
                continue
            package, other = node.module.split(".")
            self.assertEqual(package, "threesfit")
            self.assertLessEqual(names, self.defined(FOLDER / f"{other}.py"), (file, other))
            reach[file[:-3]].add(other)
        while any(reach.values()):
            ends = [file for file in reach if not reach[file]]
            self.assertTrue(set(ends) & set().union(*reach.values()), "files import in a circle")
            reach = {file: others - set(ends) for file, others in reach.items()}

    def defined(self, file):
        body = tree_of(file).body
        names = {node.name for node in body if isinstance(node, (ast.FunctionDef, ast.ClassDef))}
        return names | {node.targets[0].id for node in body if isinstance(node, ast.Assign)}

    def test_names(self):
        for file, node in nodes((ast.Name, ast.arg, ast.FunctionDef, ast.ClassDef)):
            name = getattr(node, "id", None) or getattr(node, "arg", None) or getattr(node, "name", None)
            read = isinstance(node, ast.Name) and isinstance(node.ctx, ast.Load)
            if name == "__init__":
                continue
            self.assertFalse(name.startswith("__"), (file, node.lineno, name))
            if hasattr(builtins, name):
                self.assertTrue(read and name in BUILTINS, (file, node.lineno, name))
            self.assertFalse(name == "_" and read, (file, node.lineno))

    def test_imported_names_have_one_meaning(self):
        for file in FILES:
            tree = tree_of(file)
            taken = {one.name for node in tree.body if isinstance(node, ast.ImportFrom) for one in node.names}
            for node in ast.walk(tree):
                name = node.arg if isinstance(node, ast.arg) else None
                if isinstance(node, ast.Name) and isinstance(node.ctx, ast.Store):
                    name = node.id
                self.assertNotIn(name, taken, (file, name))

    def test_methods(self):
        own = {part.name for _, node in nodes(ast.ClassDef) for part in node.body if isinstance(part, ast.FunctionDef)}
        assigned = {node.attr for _, node in nodes(ast.Attribute) if isinstance(node.ctx, ast.Store)}
        self.assertEqual(own & (METHODS | assigned), set())
        for file, node in nodes(ast.Call):
            if isinstance(node.func, ast.Attribute):
                self.assertIn(node.func.attr, METHODS | own, (file, node.lineno))
                self.assertEqual(node.keywords, [], (file, node.lineno))

    def test_products(self):
        for file, node in nodes(ast.Call):
            if isinstance(node.func, ast.Name) and node.func.id in LIBRARY["itertools"]:
                self.assertEqual(node.keywords, [], (file, node.lineno))
                for part in node.args:
                    self.assertTrue(isinstance(part, ast.Call) and part.func.id == "range", (file, node.lineno))

    def test_values(self):
        barred = (ast.Global, ast.Set, ast.SetComp, ast.Lambda, ast.AsyncFunctionDef, ast.Div)
        self.assertEqual([(file, node) for file, node in nodes(barred)], [])
        for file, node in nodes(ast.Constant):
            self.assertNotIsInstance(node.value, (float, complex, bytes), (file, node.lineno))
            if isinstance(node.value, str):
                self.assertNotIn("%", node.value, (file, node.lineno))

    def test_barred_words(self):
        for file, node in nodes(ast.Constant):
            if isinstance(node.value, str) and "\n" not in node.value and " " not in node.value:
                self.assertIsNone(BARRED.search(node.value), (file, node.lineno))
        for file, node in nodes((ast.Name, ast.Attribute)):
            self.assertIsNone(BARRED.search(getattr(node, "id", None) or node.attr), (file, node.lineno))
