"""Looks whether the package's files keep to the small part of Python that they are written in."""

import ast
import builtins
import pathlib
import re
import unittest

FOLDER = pathlib.Path(__file__).resolve().parent.parent / "nolitter"
PACKAGE = FOLDER.name

ERRORS = set("""Exception ValueError TypeError KeyError IndexError LookupError ZeroDivisionError ArithmeticError
OverflowError RuntimeError NotImplementedError AttributeError StopIteration""".split())
CALLS = set("""len range enumerate zip min max sum abs sorted reversed int str bool list tuple dict set frozenset
isinstance ord repr any all divmod""".split())
METHODS = set("""append clear copy count endswith extend find get index insert isalnum isalpha isdigit islower isspace
isupper items join keys ljust lower lstrip partition pop remove replace reverse rfind rjust rpartition rsplit rstrip
setdefault split splitlines startswith strip update upper values zfill bit_length""".split())
WALKED = {"zip", "enumerate", "reversed", "range"}
WALKERS = {"list", "tuple", "dict", "sorted", "sum", "any", "all", "enumerate", "zip", "min", "max"}
UNUSED = set("""register mro elements open input version_info with_traceback add_note attrgetter breakpoint builtins
compile copyright credits delattr dir eval exec exit gc getattr globals hasattr help id importlib license locals
methodcaller os quit setattr super type vars sys format format_map chr print""".split())
WORDS = re.compile(r"\b(type|typing|typing_extensions|enum|Enum|IntEnum|StrEnum|Flag|IntFlag|Generic|Protocol|ABC|ABCMeta|"
                   r"namedtuple|NamedTuple|TypedDict|TYPE_CHECKING|abstractmethod)\b|dataclass|overload|contextmanager")
TWO_UNDERSCORES = {"__init__", "__eq__", "__repr__", "__str__", "__len__"}
STATEMENTS = (ast.Assign, ast.AugAssign, ast.If, ast.While, ast.For, ast.Return, ast.Break, ast.Continue, ast.Pass, ast.Raise,
              ast.Try, ast.Expr, ast.FunctionDef, ast.ClassDef, ast.ImportFrom)
EXPRESSIONS = (ast.Constant, ast.List, ast.Tuple, ast.Dict, ast.BinOp, ast.UnaryOp, ast.BoolOp, ast.Compare, ast.IfExp,
               ast.Call, ast.Attribute, ast.Subscript, ast.Slice, ast.ListComp, ast.JoinedStr, ast.FormattedValue, ast.Name,
               ast.Lambda)
OWN_VALUES = {name for kind in (str, int, list, dict, set, bytes, tuple) for name in dir(kind)}
VALUES_LET = set("count index title find get join lower upper split strip copy add".split())
TRIED = {"ValueError", "LookupError", "IndexError", "Exception", "TypeError"}


class File:
    def __init__(self, path):
        self.path = path
        self.text = path.read_text(encoding="utf-8")
        self.tree = ast.parse(self.text)
        self.nodes = list(ast.walk(self.tree))
        self.parents = {child: node for node in self.nodes for child in ast.iter_child_nodes(node)}
        self.imports = [node for node in self.tree.body if isinstance(node, ast.ImportFrom)]
        self.imported = {name.asname or name.name for node in self.imports for name in node.names}
        self.classes = [node for node in self.nodes if isinstance(node, ast.ClassDef)]
        self.class_names = {node.name for node in self.classes}
        self.functions = [node for node in self.nodes if isinstance(node, ast.FunctionDef)]
        self.top = [name for node in self.tree.body for name in bound(node)]

    def of_kind(self, *kinds):
        return [node for node in self.nodes if isinstance(node, kinds)]


def bound(node):
    if isinstance(node, (ast.FunctionDef, ast.ClassDef)):
        return [node.name]
    if isinstance(node, ast.Assign):
        return [target.id for target in node.targets]
    return [name.asname or name.name for name in node.names] if isinstance(node, ast.ImportFrom) else []


FILES = [File(path) for path in sorted(FOLDER.glob("*.py"))]


class Language(unittest.TestCase):
    where = ""

    def each(self, *kinds):
        """Each node of these kinds, with its file."""
        for file in FILES:
            for node in file.of_kind(*kinds):
                self.where = f"{file.path.name}, line {node.lineno}: "
                yield file, node
        self.where = ""

    def _formatMessage(self, message, standard):
        return self.where + super()._formatMessage(message, standard)

    def test_files_and_their_size(self):
        self.assertGreater(len(FILES), 1)
        self.assertIn("__init__.py", [file.path.name for file in FILES])
        for path in FOLDER.iterdir():
            if path.name != "__pycache__":
                self.assertRegex(path.name, r"^([a-z][a-z0-9_]*|__init__|__main__)\.py$")
                self.assertFalse(hasattr(builtins, path.stem) and path.stem != "__init__")
        for file in FILES:
            self.assertRegex(file.text, r"^[ -~\n]*$")
            self.assertIsNone(WORDS.search(file.text), file.path.name)
            lines = file.text.split("\n")
            self.assertLessEqual(len(lines), 400)
            self.assertLessEqual(max(len(line) for line in lines), 120)
        for file, node in self.each(ast.FunctionDef):
            self.assertLessEqual(node.end_lineno - node.lineno + 1, 40)

    def test_imports(self):
        drawn = {}
        for file, node in self.each(ast.ImportFrom, ast.Import):
            self.assertIsInstance(node, ast.ImportFrom)
            self.assertIn(node, file.tree.body)
            self.assertEqual(node.level, 0)
            self.assertTrue(node.module.startswith(PACKAGE + "."))
            source = [other for other in FILES if other.path.stem == node.module.split(".")[1]][0]
            for name in node.names:
                self.assertIn(name.name, source.top)
                self.assertNotIn(name.name, source.imported)
                self.assertIsNone(name.asname)
            drawn.setdefault(file.path.stem, set()).add(source.path.stem)
        while drawn:
            free = [stem for stem in drawn if not drawn[stem] & set(drawn)]
            self.assertTrue(free, f"files that draw from one another: {drawn}")
            for stem in free:
                del drawn[stem]

    def test_the_top_of_a_file(self):
        for file in FILES:
            self.assertEqual(len(file.top), len(set(file.top)), file.path.name)
            self.assertIsNotNone(ast.get_docstring(file.tree))
            for node in file.tree.body[1:]:
                self.assertIsInstance(node, (ast.FunctionDef, ast.ClassDef, ast.ImportFrom, ast.Assign))
                if isinstance(node, ast.Assign):
                    for part in ast.walk(node.value):
                        self.assertIsInstance(part, (ast.Constant, ast.Tuple, ast.List, ast.Dict, ast.Load))

    def test_statements(self):
        for file, node in self.each(ast.stmt):
            self.assertIsInstance(node, STATEMENTS)
            if isinstance(node, (ast.While, ast.For)):
                self.assertFalse(node.orelse)
            if isinstance(node, ast.Assign):
                self.assertEqual(len(node.targets), 1)
                self.assertIsInstance(node.targets[0], (ast.Name, ast.Attribute, ast.Subscript))
            if isinstance(node, ast.Expr):
                text = isinstance(node.value, ast.Constant) and isinstance(node.value.value, str)
                self.assertTrue(text or isinstance(node.value, ast.Call))
            if isinstance(node, ast.Raise):
                self.assertIsInstance(node.exc, ast.Call)
            if isinstance(node, ast.Try):
                self.assertFalse(node.finalbody)

    def test_errors_that_are_taken(self):
        for file, node in self.each(ast.ExceptHandler):
            named = {part.id for part in ast.walk(node.type) if isinstance(part, ast.Name)} if node.type else {"Exception"}
            self.assertFalse(named & TRIED, "look at what stands in this try")

    def test_expressions(self):
        for file, node in self.each(ast.expr):
            self.assertIsInstance(node, EXPRESSIONS)
            if isinstance(node, ast.Constant):
                self.assertIn(type(node.value), (int, str, bool, type(None)))
                self.assertNotIn("%", str(node.value))
            if isinstance(node, ast.BinOp):
                self.assertNotIsInstance(node.op, (ast.Div, ast.MatMult))
            if isinstance(node, ast.BinOp) and isinstance(node.op, ast.Pow):
                self.assertIn(getattr(node.right, "value", None), range(65))
            if isinstance(node, ast.ListComp):
                self.assertEqual(len(node.generators), 1)
                self.assertLessEqual(len(node.generators[0].ifs), 1)
            if isinstance(node, ast.FormattedValue):
                self.assertIsInstance(node.value, ast.Name)
                self.assertIsNone(node.format_spec)
                self.assertIn(node.conversion, (-1, ord("r")))
            if isinstance(node, ast.Compare):
                for operator, right in zip(node.ops, node.comparators):
                    if isinstance(operator, (ast.Is, ast.IsNot)):
                        self.assertIn(getattr(right, "value", 0), (None, True, False))

    def test_escapes(self):
        for file in FILES:
            self.assertNotRegex(file.text, r"\\[^nt\\'\"]")

    def test_functions(self):
        for file, node in self.each(ast.FunctionDef):
            self.assertFalse(node.decorator_list)
            self.assertFalse(node.args.vararg or node.args.kwarg or node.args.kwonlyargs or node.args.posonlyargs)
            self.assertIsNone(node.returns)
            self.assertIsNotNone(ast.get_docstring(node) or node.name in TWO_UNDERSCORES or None)
            if node.name == "__init__":
                self.assertFalse([part for part in ast.walk(node) if isinstance(part, ast.Return)])
        for file, node in self.each(ast.arg):
            self.assertIsNone(node.annotation)

    def test_classes(self):
        methods, values = set(), set()
        for file, node in self.each(ast.ClassDef):
            self.assertIn(node, file.tree.body)
            self.assertFalse(node.decorator_list or node.keywords)
            self.assertLessEqual(len(node.bases), 1)
            self.assertIsNotNone(ast.get_docstring(node))
            names = []
            for part in node.body[1:]:
                self.assertIsInstance(part, ast.FunctionDef)
                names.append(part.name)
            self.assertEqual(len(names), len(set(names)))
            methods |= set(names)
        for file, node in self.each(ast.Attribute):
            if isinstance(node.ctx, ast.Store):
                self.assertIsInstance(node.value, ast.Name)
                self.assertNotIn(node.value.id, file.top)
                values.add(node.attr)
        self.assertFalse(methods & values)
        self.assertFalse(values & (OWN_VALUES - VALUES_LET))
        self.assertFalse((methods & OWN_VALUES) - TWO_UNDERSCORES - METHODS - {"add", "discard"})
        for file, node in self.each(ast.Attribute):
            self.assertIn(node.attr, methods | values | METHODS)

    def test_names(self):
        for file, node in self.each(ast.Name, ast.arg, ast.FunctionDef, ast.ClassDef, ast.Attribute):
            name = getattr(node, "id", None) or getattr(node, "arg", None) or getattr(node, "name", None) or node.attr
            if name not in TWO_UNDERSCORES:
                self.assertRegex(name, r"^[A-Za-z][A-Za-z0-9_]*$")
            self.assertNotIn(name, UNUSED)
            stored = isinstance(node, ast.arg) or isinstance(getattr(node, "ctx", None), ast.Store)
            if stored and not isinstance(node, ast.Attribute):
                self.assertFalse(hasattr(builtins, name))
                self.assertNotIn(name, file.imported | file.class_names)
            if isinstance(node, ast.Name) and isinstance(node.ctx, ast.Load) and hasattr(builtins, name):
                self.assertIn(name, CALLS | ERRORS)

    def test_classes_stand_where_they_may(self):
        for file, node in self.each(ast.Name):
            is_class = node.id in file.class_names or node.id in ERRORS or node.id[0].isupper() and not node.id.isupper()
            parent = file.parents[node]
            if is_class and isinstance(parent, ast.Call):
                self.assertTrue(parent.func is node or parent.func.id == "isinstance")
            elif is_class and isinstance(parent, ast.Attribute):
                self.assertEqual(parent.attr, "__init__")
            elif is_class:
                self.assertIsInstance(parent, (ast.ClassDef, ast.ExceptHandler))

    def test_what_is_walked_is_walked_on_the_spot(self):
        for file, node in self.each(ast.Call):
            name = getattr(node.func, "id", None) or getattr(node.func, "attr", None)
            parent = file.parents[node]
            if name in ("set", "frozenset"):
                self.assertTrue(isinstance(parent, ast.Compare) or getattr(parent.func, "id", "") in ("sorted", "len"))
            elif name in WALKED or name in ("items", "keys", "values"):
                if isinstance(parent, ast.Call):
                    self.assertIn(parent.func.id, WALKERS)
                    self.assertTrue(parent.args[0] is node or parent.func.id == "zip")
                else:
                    self.assertIsInstance(parent, (ast.For, ast.comprehension))
            elif name in CALLS and isinstance(node.func, ast.Name):
                self.assertFalse({word.arg for word in node.keywords} - {"key", "reverse", "default", "start", "strict"})
            if name in CALLS | METHODS and name not in ("sorted", "min", "max", "sum", "enumerate", "zip"):
                self.assertFalse(node.keywords)

    def test_python_names_are_called_not_kept(self):
        for file, node in self.each(ast.Name):
            if node.id in CALLS and node.id not in ("int", "str", "bool", "list", "tuple", "dict"):
                parent = file.parents[node]
                self.assertTrue(isinstance(parent, ast.Call) and parent.func is node or isinstance(parent, ast.keyword))

    def test_what_the_top_keeps_is_only_read(self):
        changes = set("append clear extend insert pop remove reverse setdefault update".split())
        for file, node in self.each(ast.Attribute, ast.Subscript):
            if isinstance(node.value, ast.Name) and node.value.id in file.top:
                self.assertIsInstance(node.ctx, ast.Load)
                self.assertNotIn(getattr(node, "attr", None), changes)


if __name__ == "__main__":
    unittest.main()
