"""The package keeps to the small subset of Python that it is written in, as far as a test can easily see."""

import ast
import io
import os
import re
import tokenize
import unittest

FOLDER = os.path.join(os.path.dirname(os.path.dirname(os.path.abspath(__file__))), "quicktongue")
BUILTINS = (
    "len range enumerate zip min max sum abs sorted reversed int str bool bytes list tuple dict set frozenset isinstance "
    "ord repr any all divmod type Exception KeyError").split()
METHODS = (
    "append clear copy count endswith extend find get index insert isalnum isalpha isdigit islower isspace isupper items "
    "join keys ljust lower lstrip partition pop remove replace reverse rfind rjust rpartition rsplit rstrip setdefault "
    "split splitlines startswith strip update upper values zfill bit_length add discard").split()
BARRED = (
    "typing typing_extensions enum Enum Generic Protocol ABC namedtuple NamedTuple TypedDict abstractmethod dataclass "
    "overload contextmanager").split()
BARRED_NAMES = (
    "global async open input register mro elements law copyright credits dir eval exec exit gc globals help id license "
    "locals os quit setattr getattr hasattr vars sys chr map filter next iter").split()
NODES = (ast.AsyncFunctionDef, ast.Global, ast.Lambda, ast.Starred, ast.AnnAssign, ast.NamedExpr, ast.Set, ast.SetComp,
         ast.JoinedStr, ast.Await, ast.Import, ast.With, ast.Yield, ast.YieldFrom, ast.Match)


def files():
    for name in sorted(os.listdir(FOLDER)):
        if name != "__pycache__":
            with open(os.path.join(FOLDER, name), encoding="utf-8") as file:
                yield name, file.read()


class LanguageTest(unittest.TestCase):
    def test_files(self):
        for name, text in files():
            self.assertRegex(name, r"^[a-z_]+\.py$")
            self.assertTrue(all(sign == "\n" or " " <= sign <= "~" for sign in text), name)
            lines = text.split("\n")
            self.assertLessEqual(len(lines), 399, name)
            self.assertLessEqual(max(len(line) for line in lines), 120, name)

    def test_nodes(self):
        for name, text in files():
            for node in ast.walk(ast.parse(text)):
                self.assertNotIsInstance(node, NODES, (name, getattr(node, "lineno", 0)))
                if isinstance(node, (ast.FunctionDef, ast.ClassDef)):
                    self.assertEqual(node.decorator_list, [], name)
                    self.assertTrue(ast.get_docstring(node) or node.name == "__init__", (name, node.name))
                if isinstance(node, ast.FunctionDef):
                    self.assertLessEqual(node.end_lineno - node.lineno + 1, 40, (name, node.name))
                if isinstance(node, ast.Constant):
                    self.assertIn(type(node.value), (int, str, bool, type(None)), name)
                    self.assertFalse("%" in str(node.value), name)
                if isinstance(node, ast.BinOp):
                    self.assertNotIsInstance(node.op, (ast.Div, ast.Pow, ast.Mod), name)
                if isinstance(node, (ast.Is, ast.IsNot)):
                    continue
                if isinstance(node, ast.Compare) and isinstance(node.ops[0], (ast.Is, ast.IsNot)):
                    kept = [side for side in (node.left, node.comparators[0]) if isinstance(side, ast.Constant)]
                    self.assertTrue(kept or "type(" in ast.unparse(node), name)

    def test_modules_hold_only_definitions(self):
        for name, text in files():
            for node in ast.parse(text).body[1:]:
                self.assertIsInstance(node, (ast.ImportFrom, ast.FunctionDef, ast.ClassDef, ast.Assign), name)
                if isinstance(node, ast.ImportFrom):
                    self.assertEqual((node.module.split(".")[0], node.level), ("quicktongue", 0))
                    self.assertTrue(all(alias.asname is None for alias in node.names))
            self.assertIsNotNone(ast.get_docstring(ast.parse(text)), name)

    def test_names(self):
        defined = {node.name for _, text in files() for node in ast.walk(ast.parse(text))
                   if isinstance(node, (ast.FunctionDef, ast.ClassDef))}
        attributes = {node.attr for _, text in files() for node in ast.walk(ast.parse(text))
                      if isinstance(node, ast.Attribute) and isinstance(node.ctx, ast.Store)}
        for name, text in files():
            tree = ast.parse(text)
            imported = {alias.name for node in tree.body if isinstance(node, ast.ImportFrom) for alias in node.names}
            top = imported | {target.id for node in tree.body if isinstance(node, ast.Assign) for target in node.targets}
            read = {node.id for node in ast.walk(tree) if isinstance(node, ast.Name)}
            self.assertLessEqual(imported, read, name)
            bound = {node.id for node in ast.walk(tree) if isinstance(node, ast.Name) and isinstance(node.ctx, ast.Store)}
            bound |= {node.arg for node in ast.walk(tree) if isinstance(node, ast.arg)}
            self.assertEqual(bound & imported, set(), name)
            self.assertEqual(bound & set(dir(__builtins__) if not isinstance(__builtins__, dict) else __builtins__), set())
            self.assertLessEqual(read, bound | top | defined | set(BUILTINS), name)
            for node in ast.walk(tree):
                if isinstance(node, ast.Attribute):
                    self.assertIn(node.attr, defined | attributes | set(METHODS), (name, node.lineno))
            code = "\n".join(line.split("#")[0] if '"#"' not in line else line for line in text.split("\n"))
            code = re.sub(r'""".*?"""', "", code, flags=re.S)
            for word in BARRED:
                self.assertIsNone(re.search(r"\b" + word + r"\b", code), (name, word))
            names = {token.string for token in tokenize.generate_tokens(io.StringIO(text).readline)
                     if token.type == tokenize.NAME}
            self.assertEqual(names & set(BARRED_NAMES), set(), name)
        self.assertEqual((defined | attributes) & set(METHODS), set())
        self.assertEqual(defined & attributes, set())

    def test_no_two_files_import_from_each_other(self):
        imports = {}
        for name, text in files():
            imports[name[:-3]] = {node.module.split(".")[1] for node in ast.parse(text).body
                                  if isinstance(node, ast.ImportFrom)}
        while imports:
            free = [name for name in imports if not imports[name] & set(imports)]
            self.assertTrue(free, imports)
            imports = {name: imports[name] for name in imports if name not in free}
