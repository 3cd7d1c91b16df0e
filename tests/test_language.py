"""The form of the code: those rules of the language that can be seen by a plain look at the files."""

import ast
import builtins
import pathlib
import re
import unittest

PACKAGE = pathlib.Path(__file__).resolve().parent.parent / "nestrows"
FILES = sorted(PACKAGE.glob("**/*.py"))

BUILTINS = set("""len range enumerate zip min max sum abs sorted reversed int str bool list tuple dict set isinstance
    ord repr any all divmod super Exception ValueError TypeError KeyError IndexError LookupError""".split())
METHODS = set("""append clear copy count endswith extend find get index insert isalnum isalpha isdigit islower isspace
    isupper items join keys ljust lower lstrip partition pop remove replace reverse rfind rjust rpartition rsplit rstrip
    setdefault split splitlines startswith strip update upper values zfill bit_length""".split())
WORDS = re.compile(r"\b(type|typing|typing_extensions|enum|Enum|IntEnum|StrEnum|Flag|IntFlag|Generic|Protocol|ABC|"
                   r"ABCMeta|namedtuple|NamedTuple|TypedDict|TYPE_CHECKING|abstractmethod)\b|"
                   r"dataclass|overload|contextmanager")
NOT_NAMES = set("""register mro elements open input version_info with_traceback add_note attrgetter breakpoint builtins
    compile copyright credits delattr dir eval exec exit gc getattr globals hasattr help id importlib license locals
    methodcaller os quit setattr type vars sys chr""".split())
NOT_ALLOWED = (ast.Global, ast.AsyncFunctionDef, ast.AsyncFor, ast.AsyncWith, ast.Await, ast.Import, ast.Div, ast.Set)


def trees():
    return [(path, ast.parse(path.read_text())) for path in FILES]


def bound_names(tree):
    """All names that are given a meaning, except methods and attributes."""
    for node in ast.walk(tree):
        if isinstance(node, ast.Name) and isinstance(node.ctx, ast.Store):
            yield node.id
        elif isinstance(node, ast.arg):
            yield node.arg


class Language(unittest.TestCase):
    def test_files(self):
        self.assertTrue(FILES)
        for path in PACKAGE.iterdir():
            if path.name != "__pycache__":
                self.assertRegex(path.name, r"^([a-z][a-z0-9_]*|__init__)\.py$")

    def test_characters_lines_and_words(self):
        for path in FILES:
            text = path.read_text()
            lines = text.split("\n")
            self.assertRegex(text, r"\A[ -~\n]*\Z", path)
            self.assertLessEqual(len(lines), 400, path)
            self.assertLessEqual(max(map(len, lines)), 120, path)
            self.assertIsNone(WORDS.search(text), path)

    def test_length_of_functions(self):
        for path, tree in trees():
            for node in ast.walk(tree):
                if isinstance(node, ast.FunctionDef):
                    self.assertLessEqual(node.end_lineno - node.lineno + 1, 40, (path, node.name))

    def test_statements(self):
        for path, tree in trees():
            for node in ast.walk(tree):
                self.assertNotIsInstance(node, NOT_ALLOWED, (path, getattr(node, "lineno", 0)))
                if isinstance(node, ast.Constant):
                    self.assertNotIsInstance(node.value, float, path)
                    self.assertFalse(isinstance(node.value, str) and chr(37) in node.value, path)
                if isinstance(node, ast.Compare) and any(isinstance(op, (ast.Is, ast.IsNot)) for op in node.ops):
                    self.assertTrue(all(isinstance(side, ast.Constant) for side in node.comparators), path)

    def test_module_level(self):
        for path, tree in trees():
            seen = []
            for node in tree.body:
                self.assertIsInstance(node, (ast.Expr, ast.ImportFrom, ast.FunctionDef, ast.ClassDef, ast.Assign))
                if isinstance(node, ast.ImportFrom):
                    seen += [alias.name for alias in node.names]
                elif isinstance(node, ast.Assign):
                    seen += [target.id for target in node.targets]
                elif not isinstance(node, ast.Expr):
                    seen.append(node.name)
            self.assertEqual(len(seen), len(set(seen)), path)

    def test_imports(self):
        known = {}
        for path, tree in trees():
            known[f"nestrows.{path.stem}"] = [node for node in tree.body if isinstance(node, ast.ImportFrom)]
        for module, imports in known.items():
            for node in imports:
                self.assertEqual(node.level, 0)
                self.assertIn(node.module, known)
                self.assertNotIn(module, self.reached(node.module, known))

    def reached(self, module, known, seen=()):
        if module in seen:
            return list(seen)
        found = [module]
        for node in known[module]:
            found += self.reached(node.module, known, seen + (module,))
        return found

    def test_names(self):
        for path, tree in trees():
            taken = {node.name for node in tree.body if isinstance(node, ast.ClassDef)}
            taken |= {alias.name for node in tree.body if isinstance(node, ast.ImportFrom) for alias in node.names}
            for name in bound_names(tree):
                with self.subTest(file=path.name, name=name):
                    self.assertRegex(name, r"^[A-Za-z][A-Za-z0-9_]*$")
                    self.assertNotIn(name, taken | NOT_NAMES | set(dir(builtins)))

    def test_builtins(self):
        for path, tree in trees():
            own = set(bound_names(tree))
            own |= {node.name for node in ast.walk(tree) if isinstance(node, (ast.FunctionDef, ast.ClassDef))}
            own |= {alias.name for node in ast.walk(tree) if isinstance(node, ast.ImportFrom) for alias in node.names}
            for node in ast.walk(tree):
                if isinstance(node, ast.Name) and isinstance(node.ctx, ast.Load) and node.id not in own:
                    self.assertIn(node.id, BUILTINS, (path, node.lineno))

    def test_methods_and_attributes(self):
        methods, stored, read = set(), set(), {}
        for path, tree in trees():
            for node in ast.walk(tree):
                if isinstance(node, ast.ClassDef):
                    methods |= {item.name for item in node.body if isinstance(item, ast.FunctionDef)}
                elif isinstance(node, ast.Attribute) and isinstance(node.ctx, ast.Store):
                    stored.add(node.attr)
                elif isinstance(node, ast.Attribute):
                    read[node.attr] = (path, node.lineno)
        self.assertEqual(methods & stored, set())
        for name in methods | stored:
            for value in (0, "", b"", [], (), {}, set()):
                self.assertTrue(name == "__init__" or not hasattr(value, name), name)
        for name, where in read.items():
            self.assertIn(name, methods | stored | METHODS, where)


if __name__ == "__main__":
    unittest.main()
