"""The form of the code of the package: the rules of LANGUAGE.md that a look at its trees can check.

Some checks are stricter than the rules: what the package does not need is not let in.
"""

import ast
import builtins
import pathlib
import re
import unittest

import unseenslopes

FOLDER = pathlib.Path(unseenslopes.__file__).parent
FILES = {path.stem: path.read_text(encoding="utf-8") for path in sorted(FOLDER.glob("*.py"))}
TREES = {name: ast.parse(text) for name, text in FILES.items()}
LIBRARY = {"math": {"factorial", "gcd"}, "heapq": {"heappop", "heappush"}}
BUILTINS = set("""len range enumerate zip min max sum abs sorted reversed int str bool list tuple dict set isinstance ord
    repr any all divmod ValueError LookupError TypeError NotImplemented property staticmethod""".split())
METHODS = set("""append clear copy count endswith extend find get index insert isalnum isalpha isdigit islower isspace
    isupper items join keys ljust lower lstrip partition pop remove replace reverse rfind rjust rpartition rsplit rstrip
    setdefault split splitlines startswith strip update upper values zfill bit_length removeprefix removesuffix add
    discard""".split())
KEPT_ATTRIBUTES = set("""items keys values pop update append clear extend insert remove reverse setdefault sort args
    encode decode hex fromhex format mro format_map real imag numerator denominator conjugate""".split())
DOUBLE = set("""__init__ __eq__ __repr__ __str__ __len__ __lt__ __le__ __gt__ __ge__ __ne__ __add__ __sub__ __mul__
    __pow__ __radd__ __rsub__ __rmul__ __neg__ __abs__ __bool__ __contains__ __call__ __getitem__ __setitem__
    __iter__""".split())
BARRED = set("register mro elements open input law version_info with_traceback add_note".split())
BARRED_WORDS = set("""type typing typing_extensions enum Enum IntEnum StrEnum Flag IntFlag Generic Protocol ABC ABCMeta
    namedtuple NamedTuple TypedDict TYPE_CHECKING abstractmethod""".split())
STATEMENTS = (
    ast.Assign, ast.AugAssign, ast.If, ast.While, ast.For, ast.Return, ast.Break, ast.Continue, ast.Pass, ast.Raise,
    ast.Expr, ast.FunctionDef, ast.ClassDef, ast.ImportFrom, ast.Try, ast.Delete,
)


def nodes(kinds):
    """The pairs (file, node) of the kinds in the package."""
    return [(name, node) for name, tree in TREES.items() for node in ast.walk(tree) if isinstance(node, kinds)]


def functions():
    return nodes(ast.FunctionDef)


def targets(tree):
    """The names that are bound in a tree: parameters and what is assigned."""
    found = [node.arg for node in ast.walk(tree) if isinstance(node, ast.arg)]
    return found + [node.id for node in ast.walk(tree) if isinstance(node, ast.Name) and isinstance(node.ctx, ast.Store)]


class TestFiles(unittest.TestCase):
    def test_names_and_characters(self):
        for path in FOLDER.iterdir():
            self.assertTrue(path.suffix == ".py" or path.name == "__pycache__", path)
        for name, text in FILES.items():
            self.assertRegex(name, r"^([a-z][a-z0-9_]*|__init__)$")
            self.assertTrue(all(" " <= sign <= "~" or sign == "\n" for sign in text), name)
            self.assertNotIn(name, dir(builtins))

    def test_sizes(self):
        for name, text in FILES.items():
            self.assertLessEqual(len(text.splitlines()), 399, name)
            for line in text.splitlines():
                self.assertLessEqual(len(line), 120, line)
                self.assertEqual(line, line.rstrip())
        for name, node in functions():
            self.assertLessEqual(node.end_lineno - node.lineno + 1, 40, (name, node.name))

    def test_imports(self):
        needs = {}
        for name, node in nodes((ast.Import, ast.ImportFrom)):
            self.assertIsInstance(node, ast.ImportFrom)
            self.assertEqual(node.level, 0)
            for alias in node.names:
                self.assertIsNone(alias.asname)
                if node.module in LIBRARY:
                    self.assertIn(alias.name, LIBRARY[node.module])
                    continue
                source = node.module.removeprefix("unseenslopes.")
                needs.setdefault(name, set()).add(source)
                self.assertIn(alias.name, self.defined(TREES[source]), (name, alias.name))
                used = [n for n in ast.walk(TREES[name]) if isinstance(n, ast.Name) and n.id == alias.name]
                self.assertTrue(used, (name, alias.name))
        reached = {name: self.reach(needs, name, set()) for name in TREES}
        for name in TREES:
            self.assertNotIn(name, reached[name])

    def defined(self, tree):
        made = [node.name for node in tree.body if isinstance(node, (ast.FunctionDef, ast.ClassDef))]
        return made + [node.targets[0].id for node in tree.body if isinstance(node, ast.Assign)]

    def reach(self, needs, name, seen):
        for other in needs.get(name, ()):
            if other not in seen:
                seen.add(other)
                self.reach(needs, other, seen)
        return seen

    def test_module_level(self):
        for name, tree in TREES.items():
            self.assertIsNotNone(ast.get_docstring(tree), name)
            bound = []
            for node in tree.body[1:]:
                self.assertIsInstance(node, (ast.ImportFrom, ast.FunctionDef, ast.ClassDef, ast.Assign))
                if isinstance(node, ast.Assign):
                    self.assertEqual(len(node.targets), 1)
                    self.assertIsInstance(node.targets[0], ast.Name)
                    bound.append(node.targets[0].id)
                elif isinstance(node, ast.ImportFrom):
                    bound.extend(alias.name for alias in node.names)
                else:
                    bound.append(node.name)
            self.assertEqual(len(bound), len(set(bound)), name)


class TestStatements(unittest.TestCase):
    def test_statements(self):
        for name, node in nodes(ast.stmt):
            self.assertIsInstance(node, STATEMENTS, (name, node.lineno))

    def test_handlers(self):
        own = {node.name for node in ast.walk(TREES["errors"]) if isinstance(node, ast.ClassDef)}
        for name, node in nodes(ast.Try):
            self.assertFalse(node.orelse)
            for handler in node.handlers:
                named = handler.type.elts if isinstance(handler.type, ast.Tuple) else [handler.type]
                self.assertTrue(all(part.id in own for part in named), (name, node.lineno))
            for part in node.finalbody:
                self.assertIsInstance(part, ast.Assign)
                self.assertEqual(len(part.targets), 1)
                self.assertIsInstance(part.targets[0], (ast.Name, ast.Attribute))
                self.assertIsInstance(part.value, ast.Name)

    def test_deleted_items(self):
        for name, node in nodes(ast.Delete):
            for target in node.targets:
                self.assertIsInstance(target, ast.Subscript, (name, node.lineno))

    def test_items_without_iteration(self):
        for name, node in nodes(ast.ClassDef):
            made = {part.name: part for part in node.body if isinstance(part, ast.FunctionDef)}
            self.assertEqual("__getitem__" in made, "__iter__" in made, node.name)
            if "__iter__" in made:
                self.assertEqual(len(made["__iter__"].body), 1)
                self.assertIsInstance(made["__iter__"].body[0], ast.Raise)
        for name, text in FILES.items():
            self.assertNotRegex(text, r"\(type\)|Meta|metaclass=")
            self.assertNotIn("reversed(", text)

    def test_expressions(self):
        barred = (ast.GeneratorExp, ast.Lambda, ast.Yield, ast.Await, ast.NamedExpr, ast.Div, ast.MatMult, ast.Set)
        for name, node in nodes(barred):
            self.fail((name, ast.unparse(node)))
        for name, node in nodes(ast.Constant):
            self.assertNotIsInstance(node.value, (float, complex, bytes), name)
            if isinstance(node.value, str):
                self.assertNotIn("%", node.value)
                self.assertNotRegex(node.value, r"\._+$")

    def test_annotations_and_decorators(self):
        for name, node in functions():
            self.assertIsNone(node.returns)
            self.assertTrue(all(ast.unparse(over) in ("property", "staticmethod") for over in node.decorator_list))
        for name, node in nodes(ast.arg):
            self.assertIsNone(node.annotation)

    def test_is(self):
        for name, node in nodes(ast.Compare):
            for sign, other in zip(node.ops, node.comparators):
                if isinstance(sign, (ast.Is, ast.IsNot)):
                    self.assertIn(ast.unparse(other), ("None", "True", "False"))

    def test_exponents(self):
        for name, node in nodes(ast.BinOp):
            if isinstance(node.op, ast.Pow):
                self.assertIsInstance(node.right, ast.Constant, (name, node.lineno))

    def test_stars_over_plain_things(self):
        for name, node in nodes(ast.Call):
            self.assertFalse(any(isinstance(part, ast.Starred) for part in node.args), (name, node.lineno))
            self.assertFalse(any(part.arg is None for part in node.keywords), (name, node.lineno))

    def test_kept_sets(self):
        for name, node in nodes((ast.Assign, ast.SetComp)):
            self.assertNotIsInstance(node, ast.SetComp, name)
            if ast.unparse(node.value).startswith("set("):
                self.assertIsInstance(node.targets[0], ast.Name)


class TestNames(unittest.TestCase):
    def test_builtins(self):
        for name, tree in TREES.items():
            used = {node.id for node in ast.walk(tree) if isinstance(node, ast.Name)}
            self.assertLessEqual(used & set(dir(builtins)), BUILTINS, name)
            bound = targets(tree)
            bound += [node.name for node in tree.body if isinstance(node, (ast.FunctionDef, ast.ClassDef))]
            self.assertFalse(set(bound) & set(dir(builtins)), name)

    def test_no_local_name_of_a_class_or_an_import(self):
        for name, tree in TREES.items():
            kept = {node.name for node in tree.body if isinstance(node, ast.ClassDef)}
            kept |= {alias.name for node in tree.body if isinstance(node, ast.ImportFrom) for alias in node.names}
            for node in ast.walk(tree):
                if isinstance(node, ast.FunctionDef):
                    self.assertFalse(set(targets(node)) & kept, (name, node.name))

    def test_plain_names(self):
        for name, tree in TREES.items():
            found = targets(tree)
            found += [node.attr for node in ast.walk(tree) if isinstance(node, ast.Attribute)]
            found += [node.name for node in ast.walk(tree) if isinstance(node, (ast.FunctionDef, ast.ClassDef))]
            for word in found:
                plain = re.fullmatch(r"_|_?[A-Za-z][A-Za-z0-9_]*", word)
                self.assertTrue(plain or word in DOUBLE, (name, word))
                self.assertNotIn(word, BARRED)
            loads = [n.id for n in ast.walk(tree) if isinstance(n, ast.Name) and isinstance(n.ctx, ast.Load)]
            self.assertNotIn("_", loads)

    def test_barred_words(self):
        for name, tree in TREES.items():
            strings = " ".join(n.value for n in ast.walk(tree) if isinstance(n, ast.Constant) and isinstance(n.value, str))
            words = re.findall(r"\w+", strings)
            words += [node.id for node in ast.walk(tree) if isinstance(node, ast.Name)]
            self.assertFalse(set(words) & BARRED_WORDS, name)

    def test_methods(self):
        own = {node.name for _, node in functions()}
        for name, node in nodes(ast.Call):
            if isinstance(node.func, ast.Attribute):
                self.assertIn(node.func.attr, METHODS | own, (name, node.lineno))

    def test_attributes(self):
        stored = {}
        for name, node in nodes(ast.Attribute):
            if isinstance(node.ctx, ast.Store):
                self.assertNotIn(node.attr, KEPT_ATTRIBUTES)
                self.assertIsInstance(node.value, ast.Name)
                stored[node.attr] = name
        methods = {part.name for _, node in nodes(ast.ClassDef) for part in node.body if isinstance(part, ast.FunctionDef)}
        self.assertFalse(set(stored) & methods)
        values = {"MOST", "KIND"}
        for name, node in nodes(ast.Attribute):
            self.assertIn(node.attr, set(stored) | methods | METHODS | values, (name, node.lineno))


class TestClasses(unittest.TestCase):
    def test_double_underscores(self):
        for name, node in nodes(ast.ClassDef):
            for part in node.body:
                if isinstance(part, ast.FunctionDef) and part.name.startswith("__"):
                    self.assertIn(part.name, DOUBLE)
        for name, node in functions():
            returns = [part for part in ast.walk(node) if isinstance(part, ast.Return)]
            if node.name == "__init__":
                self.assertFalse(returns)
            if node.name in ("__str__", "__repr__"):
                for part in returns:
                    is_join = ast.unparse(part.value).startswith(("' '.join(", "', '.join("))
                    self.assertTrue(is_join or isinstance(part.value, ast.JoinedStr))
                self.assertIs(node.body[-1], returns[-1])
            if node.name == "__len__":
                self.assertTrue(all(ast.unparse(part.value).startswith("len(") for part in returns))

    def test_docstrings(self):
        for name, node in nodes((ast.FunctionDef, ast.ClassDef)):
            if not node.name.startswith("__"):
                self.assertIsNotNone(ast.get_docstring(node), (name, node.name))


if __name__ == "__main__":
    unittest.main()
