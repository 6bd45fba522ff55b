"""Those rules of LANGUAGE.md that a short look at each file of the package can check."""

import ast
import io
import re
import tokenize
import unittest
import warnings
from pathlib import Path

PACKAGE = Path(__file__).resolve().parent.parent / "kilnyard"
FILES = sorted(PACKAGE.rglob("*.py"))
BUILTINS = set(dir(__builtins__) if not isinstance(__builtins__, dict) else __builtins__)
ALLOWED_BUILTINS = set("""
    len range enumerate zip min max sum abs sorted reversed int str bool bytes list tuple dict set isinstance ord
    repr any all divmod pow getattr hasattr setattr iter next map print property staticmethod classmethod super
    object float NotImplemented Exception ValueError TypeError KeyError IndexError LookupError ZeroDivisionError
    ArithmeticError OverflowError RuntimeError NotImplementedError AttributeError StopIteration __name__
""".split())
LIBRARY = {"__future__", "heapq", "math", "itertools", "collections"}
BARRED_WORDS = re.compile(r"\b(typing|typing_extensions|enum|Enum|IntEnum|StrEnum|Flag|IntFlag|Generic|Protocol|ABC"
                          r"|ABCMeta|namedtuple|NamedTuple|TypedDict|TYPE_CHECKING|abstractmethod)\b"
                          r"|dataclass|overload|contextmanager|_wall\b|_WallAttr")


def source_of(file):
    return file.read_bytes().decode("ascii")


def nodes(file, *kinds):
    """The nodes of these kinds in the syntax of a file."""
    return [node for node in ast.walk(ast.parse(source_of(file))) if isinstance(node, kinds)]


def bound_names(file):
    """All names that a file gives a meaning, those of methods and attributes left out."""
    names = [node.id for node in nodes(file, ast.Name) if isinstance(node.ctx, ast.Store)]
    names += [node.arg for node in nodes(file, ast.arg)]
    methods = [part for owner in nodes(file, ast.ClassDef) for part in owner.body]
    lines = [part.lineno for part in methods]
    names += [node.name for node in nodes(file, ast.FunctionDef, ast.ClassDef) if node.lineno not in lines]
    return names


def rows_of_outer_attributes(source):
    """The rows where an attribute is assigned or deleted through anything but a local name (rule L18)."""
    tree = ast.parse(source)
    outer = {name.asname or name.name for node in tree.body if isinstance(node, ast.ImportFrom) for name in node.names}
    outer |= {node.name for node in tree.body if isinstance(node, (ast.FunctionDef, ast.ClassDef))}
    outer |= {name.id for node in tree.body if isinstance(node, (ast.Assign, ast.AnnAssign))
              for name in ast.walk(node) if isinstance(name, ast.Name) and isinstance(name.ctx, ast.Store)}
    attributes = [node for node in ast.walk(tree)
                  if isinstance(node, ast.Attribute) and not isinstance(node.ctx, ast.Load)]
    return sorted([node.lineno for node in attributes
                   if not isinstance(node.value, ast.Name) or node.value.id in outer])


class TestLanguage(unittest.TestCase):
    def test_the_package_has_files(self):
        self.assertIn(PACKAGE / "__init__.py", FILES)

    def test_the_folder_holds_nothing_else(self):
        for path in PACKAGE.rglob("*"):
            if "__pycache__" not in path.parts:
                self.assertTrue(path.is_dir() or re.fullmatch(r"[a-z0-9_]+\.py", path.name), path)

    def test_sizes(self):
        for file in FILES:
            with self.subTest(file=file.name):
                lines = source_of(file).split("\n")
                self.assertLessEqual(len(lines), 399)
                self.assertLessEqual(max([len(line) for line in lines]), 120)
                for node in nodes(file, ast.FunctionDef):
                    self.assertLessEqual(node.end_lineno - node.lineno + 1, 40, node.name)

    def test_characters(self):
        for file in FILES:
            with self.subTest(file=file.name):
                self.assertEqual(re.findall(r"[^ -~\n]", source_of(file)), [])

    def test_strings(self):
        for file in FILES:
            with self.subTest(file=file.name):
                for node in nodes(file, ast.Constant):
                    if isinstance(node.value, str):
                        self.assertNotIn("%", node.value)
                        self.assertFalse(node.value.endswith(("._", ".__")))
                for token in tokenize.generate_tokens(io.StringIO(source_of(file)).readline):
                    if token.type == tokenize.STRING:
                        self.assertEqual(re.findall(r"\\[^nt\\'\"]", token.string.replace("\\\\", "")), [])

    def test_imports(self):
        for file in FILES:
            with self.subTest(file=file.name):
                self.assertEqual([node for node in nodes(file, ast.Import) if file.name != "__main__.py"], [])
                for node in nodes(file, ast.ImportFrom):
                    self.assertEqual(node.level, 0)
                    self.assertTrue(node.module in LIBRARY or node.module.startswith("kilnyard."), node.module)
                    self.assertNotIn("*", [name.name for name in node.names])

    def test_builtins(self):
        for file in FILES:
            with self.subTest(file=file.name):
                bound = bound_names(file)
                self.assertEqual([name for name in bound if name in BUILTINS], [])
                used = [node.id for node in nodes(file, ast.Name) if isinstance(node.ctx, ast.Load)]
                self.assertEqual([name for name in used if name in BUILTINS - ALLOWED_BUILTINS], [])

    def test_variables_do_not_have_the_names_of_classes_and_imports(self):
        for file in FILES:
            with self.subTest(file=file.name):
                taken = [node.name for node in nodes(file, ast.ClassDef)]
                taken += [name.name for node in nodes(file, ast.ImportFrom) for name in node.names]
                self.assertEqual(len(taken), len(set(taken)))
                variables = [node.id for node in nodes(file, ast.Name) if isinstance(node.ctx, ast.Store)]
                variables += [node.arg for node in nodes(file, ast.arg)]
                self.assertEqual([name for name in variables if name in taken], [])

    def test_no_generator_expressions(self):
        # A class of the package has an `__eq__`: then `any`, `all`, `sorted` and the like take a list.
        for file in FILES:
            with self.subTest(file=file.name):
                self.assertEqual(nodes(file, ast.GeneratorExp), [])

    def test_barred_words(self):
        for file in FILES:
            with self.subTest(file=file.name):
                self.assertIsNone(BARRED_WORDS.search(source_of(file)))

    def test_attributes_are_assigned_through_local_names(self):
        for file in FILES:
            with self.subTest(file=file.name):
                self.assertEqual(rows_of_outer_attributes(source_of(file)), [])

    def test_attributes_that_are_assigned_otherwise_are_seen(self):
        begin = "from kilnyard.trees import Tree\nLIMIT = 1\nclass Box: pass\ndef make(): return Box()\n"
        for line in ("self.made().n = 1", "make().n = 1", "self.inner.n = 1", "self.rows[0].n = 1", "LIMIT.n = 1",
                     "Box.n = 1", "Tree.n = 1", "make.n = 1", "self.made().n += 1", "self.made().n: int = 1",
                     "k, self.made().n = 1, 2", "k = self.made().n = 1", "for self.made().n in (1, 2): pass"):
            with self.subTest(line=line):
                self.assertEqual(rows_of_outer_attributes(f"{begin}def deed(self):\n    {line}\n"), [6])
        for line in ("self.n = 1", "k = make()\n    k.n = 1", "self.n, k = 1, 2", "self.n += 1", "self.made().n[0] = 1",
                     "for self.n in (1, 2): pass", "return self.made().n"):
            with self.subTest(line=line):
                self.assertEqual(rows_of_outer_attributes(f"{begin}def deed(self):\n    {line}\n"), [])

    def test_no_barred_statements_and_values(self):
        for file in FILES:
            with self.subTest(file=file.name):
                self.assertEqual(nodes(file, ast.Global, ast.AsyncFunctionDef, ast.Await, ast.Div), [])
                values = [node.value for node in nodes(file, ast.Constant)]
                self.assertEqual([value for value in values if isinstance(value, (float, complex))], [])

    def test_python_gives_no_warning(self):
        for file in FILES:
            with self.subTest(file=file.name):
                with warnings.catch_warnings():
                    warnings.simplefilter("error")
                    compile(source_of(file), str(file), "exec")


if __name__ == "__main__":
    unittest.main()
