"""The rules of ../shared/LANGUAGE.md that can be seen in the syntax tree of the package's files.

This is a help while writing, not the whole of the rules. In two places it is stricter than they are: the package
uses no sets and no generator expressions.
"""

import ast
import builtins
import io
import pathlib
import re
import tokenize
import unittest

FOLDER = pathlib.Path(__file__).resolve().parent.parent / "riverkeeps"

BUILTINS = set("""len range enumerate zip min max sum abs sorted reversed int str bool list tuple dict isinstance ord
    repr any all divmod iter ValueError NotImplemented property super""".split())

METHODS = set("""append clear copy count endswith extend find get index insert isalnum isalpha isdigit islower isspace
    isupper items join keys ljust lower lstrip partition pop remove replace reverse rfind rjust rpartition rsplit rstrip
    setdefault split splitlines startswith strip update upper values zfill bit_length""".split())

STATEMENTS = (
    ast.FunctionDef, ast.ClassDef, ast.Assign, ast.AugAssign, ast.If, ast.While, ast.For, ast.Return, ast.Break,
    ast.Continue, ast.Pass, ast.Raise, ast.Assert, ast.Delete, ast.Try, ast.Expr, ast.ImportFrom)

BARRED_NODES = (
    ast.Set, ast.SetComp, ast.GeneratorExp, ast.Global, ast.Await, ast.AnnAssign, ast.Lambda, ast.Starred, ast.Div)

NOWHERE = "register mro elements open input law version_info with_traceback add_note".split()
NO_VARIABLES = """attrgetter breakpoint builtins compile copyright credits delattr dir eval exec exit gc getattr globals
    hasattr help id importlib license locals methodcaller os quit setattr super type vars sys""".split()
NO_WORDS = re.compile(
    r"\b(type|typing|typing_extensions|enum|Enum|IntEnum|StrEnum|Flag|IntFlag|Generic|Protocol|ABC|ABCMeta|namedtuple|"
    r"NamedTuple|TypedDict|TYPE_CHECKING|abstractmethod)\b|dataclass|overload|contextmanager|_wall|_WallAttr")

SPECIAL = set("""__init__ __eq__ __repr__ __str__ __len__ __enter__ __exit__ __call__ __iter__ __or__
    __contains__""".split())


def files():
    return sorted(FOLDER.glob("*.py"))


def functions(tree):
    return [node for node in ast.walk(tree) if isinstance(node, ast.FunctionDef)]


def classes(tree):
    return [node for node in ast.walk(tree) if isinstance(node, ast.ClassDef)]


def imported(tree):
    return [(node.module, alias.name) for node in tree.body if isinstance(node, ast.ImportFrom) for alias in node.names]


def bound_at_top(tree):
    """The names that a file binds at module level, those of imports included."""
    found = [name for _, name in imported(tree)]
    for node in tree.body:
        if isinstance(node, (ast.FunctionDef, ast.ClassDef)):
            found.append(node.name)
        if isinstance(node, ast.Assign):
            found += [target.id for target in node.targets]
    return found


def bound_inside(function):
    """The parameters and local variables of a function."""
    arguments = function.args
    found = [one.arg for one in arguments.posonlyargs + arguments.args + arguments.kwonlyargs]
    found += [node.id for node in ast.walk(function) if isinstance(node, ast.Name) and isinstance(node.ctx, ast.Store)]
    found += [node.name for node in ast.walk(function) if isinstance(node, ast.ExceptHandler) and node.name]
    return found


def plain(node):
    """The node is a plain value of the module level or of a default value."""
    if isinstance(node, ast.UnaryOp):
        return isinstance(node.op, ast.USub) and plain(node.operand)
    if isinstance(node, (ast.Tuple, ast.List)):
        return all(plain(item) for item in node.elts)
    if isinstance(node, ast.Dict):
        return all(plain(item) for item in node.keys + node.values)
    return isinstance(node, ast.Constant) and not isinstance(node.value, float)


def docstrings(tree):
    found = set()
    for node in ast.walk(tree):
        if isinstance(node, (ast.Module, ast.ClassDef, ast.FunctionDef)) and ast.get_docstring(node) is not None:
            found.add(id(node.body[0].value))
    return found


class Language(unittest.TestCase):

    where = ""

    def each(self):
        for path in files():
            self.where = path.name
            text = path.read_text(encoding="utf-8")
            yield path, text, ast.parse(text)

    def _formatMessage(self, msg, standardMsg):
        return f"{self.where}: {super()._formatMessage(msg, standardMsg)}"

    def test_the_folder(self):
        for path in FOLDER.iterdir():
            if path.name != "__pycache__":
                self.assertRegex(path.name, r"\A[a-z_][a-z0-9_]*\.py\Z")
        self.assertTrue((FOLDER / "__init__.py").exists())

    def test_sizes_and_characters(self):
        for _, text, tree in self.each():
            lines = text.split("\n")
            self.assertLessEqual(len(lines), 399)
            self.assertLessEqual(max(map(len, lines)), 120)
            self.assertTrue(all(char == "\n" or " " <= char <= "~" for char in text))
            for function in functions(tree):
                self.assertLessEqual(function.end_lineno - function.lineno + 1, 40, function.name)

    def test_imports(self):
        trees = {f"riverkeeps.{path.stem}": tree for path, _, tree in self.each()}
        for module, tree in trees.items():
            for node in ast.walk(tree):
                self.assertNotIsInstance(node, ast.Import)
                if isinstance(node, ast.ImportFrom):
                    self.assertIn(node, tree.body)
                    self.assertEqual(node.level, 0)
                    self.assertIn(node.module, trees)
                    for alias in node.names:
                        self.assertIsNone(alias.asname)
                        own = set(bound_at_top(trees[node.module])) - {name for _, name in imported(trees[node.module])}
                        self.assertIn(alias.name, own)
            seen, left = set(), {module}
            while left:
                left = {name for one in left for name, _ in imported(trees[one])} - seen
                seen |= left
            self.assertNotIn(module, seen)
        self.assertEqual(len(trees["riverkeeps.__init__"].body), 1)

    def test_imports_are_used(self):
        for _, _, tree in self.each():
            used = {node.id for node in ast.walk(tree) if isinstance(node, ast.Name)}
            for _, name in imported(tree):
                self.assertIn(name, used)

    def test_module_level(self):
        for _, _, tree in self.each():
            names = bound_at_top(tree)
            self.assertEqual(len(names), len(set(names)))
            for node in tree.body:
                if isinstance(node, ast.Assign):
                    self.assertEqual(len(node.targets), 1)
                    above = {one.name for one in tree.body if isinstance(one, ast.FunctionDef)
                             and one.lineno < node.lineno}
                    if isinstance(node.value, ast.Dict) and isinstance(node.value.values[0], ast.Name):
                        self.assertTrue(all(plain(key) for key in node.value.keys))
                        self.assertTrue({value.id for value in node.value.values} <= above)
                    else:
                        self.assertTrue(plain(node.value))
                elif isinstance(node, ast.Expr):
                    self.assertIs(node, tree.body[0])
                else:
                    self.assertIsInstance(node, (ast.ImportFrom, ast.FunctionDef, ast.ClassDef))

    def test_statements_and_expressions(self):
        for _, _, tree in self.each():
            known = docstrings(tree)
            for node in ast.walk(tree):
                self.assertNotIsInstance(node, BARRED_NODES)
                if isinstance(node, ast.stmt):
                    self.assertIsInstance(node, STATEMENTS)
                if isinstance(node, ast.Expr):
                    self.assertTrue(id(node.value) in known or isinstance(node.value, (ast.Call, ast.Yield)))
                if isinstance(node, ast.Constant):
                    self.assertNotIsInstance(node.value, (float, complex, bytes))
                    if isinstance(node.value, str):
                        self.assertNotIn("%", node.value)
                if isinstance(node, ast.Compare):
                    for operator, side in zip(node.ops, node.comparators):
                        if isinstance(operator, (ast.Is, ast.IsNot)):
                            self.assertIsInstance(side, ast.Constant)

    def test_functions(self):
        for _, _, tree in self.each():
            for function in functions(tree):
                for one in function.decorator_list:
                    self.assertTrue(isinstance(one, ast.Name) and one.id == "property")
                self.assertIsNone(function.returns)
                self.assertIsNone(function.args.vararg)
                self.assertIsNone(function.args.kwarg)
                for one in function.args.args + function.args.kwonlyargs:
                    self.assertIsNone(one.annotation)
                for value in function.args.defaults + function.args.kw_defaults:
                    if value is not None:
                        self.assertTrue(isinstance(value, ast.Name) or plain(value))
                        self.assertNotIsInstance(value, (ast.List, ast.Dict))
                if function.name.startswith("__"):
                    self.assertIn(function.name, SPECIAL)

    def test_names(self):
        for _, text, tree in self.each():
            top = bound_at_top(tree)
            shared = {name for _, name in imported(tree)} | {one.name for one in classes(tree)}
            for function in functions(tree):
                inside = bound_inside(function)
                for name in inside:
                    self.assertNotIn(name, shared)
                    # A doctest that has run before leaves a `_` among the builtins.
                    self.assertTrue(name == "_" or not hasattr(builtins, name), name)
                    self.assertNotIn(name, NO_VARIABLES)
                    self.assertRegex(name, r"\A(_|_?[A-Za-z][A-Za-z0-9_]*)\Z")
                read = {node.id for node in ast.walk(function) if isinstance(node, ast.Name)}
                self.assertEqual(read - set(inside) - set(top) - BUILTINS, set())
            for name in top:
                self.assertFalse(hasattr(builtins, name), name)
                self.assertNotIn(name, NO_VARIABLES)
            for token in tokenize.generate_tokens(io.StringIO(text).readline):
                if token.type == tokenize.NAME:
                    self.assertNotIn(token.string, NOWHERE)
                    self.assertIsNone(NO_WORDS.search(token.string), token.string)

    def test_methods_that_are_called(self):
        own = {function.name for _, _, tree in self.each() for one in classes(tree) for function in functions(one)}
        for _, _, tree in self.each():
            for node in ast.walk(tree):
                if isinstance(node, ast.Call) and isinstance(node.func, ast.Attribute):
                    self.assertIn(node.func.attr, own | METHODS)
                    if node.func.attr in METHODS:
                        self.assertEqual(node.keywords, [])

    def test_classes(self):
        methods, attributes, properties = set(), set(), set()
        for _, _, tree in self.each():
            for one in classes(tree):
                self.assertIn(one, tree.body)
                self.assertEqual(one.decorator_list, [])
                names = [function.name for function in functions(one)]
                self.assertEqual(len(names), len(set(names)))
                marked = {function.name for function in functions(one) if function.decorator_list}
                stored = {node.attr for node in ast.walk(one)
                          if isinstance(node, ast.Attribute) and isinstance(node.ctx, ast.Store)}
                self.assertEqual(stored & set(names), set())
                methods |= set(names) - marked
                properties |= marked
                attributes |= stored
        self.assertEqual(methods & attributes, set())
        self.assertEqual(properties & (methods | attributes), set())
        for name in (methods | attributes | properties) - SPECIAL:
            for value in ("", 0, [], {}, set(), b"", ()):
                self.assertFalse(hasattr(value, name), name)

    def test_errors(self):
        own = {one.name for one in classes(ast.parse((FOLDER / "errors.py").read_text(encoding="utf-8")))}
        for _, _, tree in self.each():
            for node in ast.walk(tree):
                if isinstance(node, ast.Raise):
                    self.assertIsInstance(node.exc, ast.Call)
                    self.assertIn(node.exc.func.id, own)
                    self.assertEqual(node.exc.keywords, [])
                if isinstance(node, ast.ExceptHandler):
                    self.assertIn(node.type.id, own)


if __name__ == "__main__":
    unittest.main()
