"""The form of the package's files: those rules of the Python subset that are plain to see."""

import ast
import builtins
import pathlib
import re
import unittest

PACKAGE = pathlib.Path(__file__).resolve().parent.parent / "joinrounds"
BARRED = re.compile(r"\b(type|typing|typing_extensions|enum|Enum|IntEnum|StrEnum|Flag|IntFlag|Generic|Protocol|ABC|"
                    r"ABCMeta|namedtuple|NamedTuple|TypedDict|TYPE_CHECKING|abstractmethod)\b|"
                    r"dataclass|overload|contextmanager")
UNUSED = ("register", "mro", "elements", "open", "input", "law", "version_info", "with_traceback", "add_note")
BUILTINS = ("len range enumerate zip min max sum abs sorted reversed int str bool bytes list tuple dict set isinstance "
            "ord repr any all divmod iter next property staticmethod classmethod super Exception ValueError TypeError "
            "KeyError IndexError LookupError ZeroDivisionError ArithmeticError OverflowError RuntimeError "
            "NotImplementedError AttributeError StopIteration NotImplemented").split()
SPECIAL = ("__init__", "__eq__", "__repr__", "__str__", "__len__", "__enter__", "__exit__")
BARRED_NODES = (ast.Global, ast.AsyncFunctionDef, ast.Await, ast.Div, ast.MatMult, ast.AnnAssign)


def files():
    return sorted(path for path in PACKAGE.rglob("*") if "__pycache__" not in path.parts)


def trees():
    for path in files():
        for node in ast.walk(ast.parse(path.read_text("ascii"))):
            yield f"{path.name}:{getattr(node, 'lineno', 0)}", node


def names_of(node):
    """The names that a node binds or reads, attributes included."""
    for field in ("id", "name", "arg", "attr"):
        if isinstance(getattr(node, field, None), str):
            yield getattr(node, field)


def bound_names(node):
    """The names that a node binds, attributes and methods not included."""
    if isinstance(node, ast.Name) and not isinstance(node.ctx, ast.Load):
        yield node.id
    if isinstance(node, ast.arg):
        yield node.arg
    if isinstance(node, ast.alias):
        yield node.asname or node.name


class FormTest(unittest.TestCase):

    def test_the_package_holds_files_in_python_with_plain_names(self):
        self.assertIn(PACKAGE / "__init__.py", files())
        for path in files():
            self.assertRegex(path.name, r"\A(__init__|[a-z][a-z0-9_]*)\.py\Z")

    def test_characters_and_lengths(self):
        for path in files():
            text = path.read_bytes().decode("ascii")
            self.assertIsNone(re.search(r"[^ -~\n]", text), path.name)
            lines = text.split("\n")
            self.assertLess(len(lines), 400, path.name)
            self.assertLessEqual(max(len(line) for line in lines), 120, path.name)
        for where, node in trees():
            if isinstance(node, ast.FunctionDef):
                self.assertLessEqual(node.end_lineno - node.lineno + 1, 40, where)

    def test_words_that_do_not_occur(self):
        for path in files():
            self.assertIsNone(BARRED.search(path.read_text("ascii")), path.name)

    def test_imports_name_what_a_module_of_the_package_defines(self):
        for path in files():
            for node in ast.walk(ast.parse(path.read_text("ascii"))):
                self.assertNotIsInstance(node, ast.Import, path.name)
                if isinstance(node, ast.ImportFrom):
                    self.assertEqual((node.level, node.module.split(".")[0]), (0, "joinrounds"), path.name)
                    source = (PACKAGE.parent / (node.module.replace(".", "/") + ".py")).read_text("ascii")
                    for one in node.names:
                        self.assertRegex(source, rf"(?m)^(def |class )?{one.name}\b", path.name)

    def test_no_two_files_import_from_each_other(self):
        needed = {path.stem: {node.module.split(".")[1] for node in ast.walk(ast.parse(path.read_text("ascii")))
                              if isinstance(node, ast.ImportFrom)} for path in files()}
        while needed:
            free = [name for name, names in needed.items() if not names & needed.keys()]
            self.assertNotEqual(free, [], needed)
            needed = {name: names for name, names in needed.items() if name not in free}

    def test_names(self):
        for where, node in trees():
            for name in names_of(node):
                self.assertNotIn(name, UNUSED, where)
                if name not in SPECIAL:
                    self.assertFalse(name.startswith("_"), f"{where} {name}")
            for name in bound_names(node):
                self.assertNotIn(name, vars(builtins), where)

    def test_builtins(self):
        others = [name for name in vars(builtins) if name not in BUILTINS]
        for where, node in trees():
            if isinstance(node, ast.Name):
                self.assertNotIn(node.id, others, where)
            if isinstance(node, ast.Call) and isinstance(node.func, ast.Name):
                # A class of the package has __eq__, so these take lists.
                if node.func.id in ("any", "all", "min", "max", "sum", "sorted"):
                    self.assertNotIsInstance(node.args[0], ast.GeneratorExp, where)

    def test_expressions(self):
        for where, node in trees():
            self.assertNotIsInstance(node, BARRED_NODES, where)
            if isinstance(node, ast.Constant):
                self.assertNotIsInstance(node.value, (float, complex), where)
                self.assertFalse(isinstance(node.value, str) and "%" in node.value, where)
            if isinstance(node, ast.Compare):
                for sign, right in zip(node.ops, node.comparators):
                    if isinstance(sign, (ast.Is, ast.IsNot)):
                        self.assertIsInstance(right, ast.Constant, where)

    def test_no_local_name_is_that_of_an_import_or_a_class(self):
        for path in files():
            tree = ast.parse(path.read_text("ascii"))
            shared = {one.name for node in tree.body if isinstance(node, ast.ImportFrom) for one in node.names}
            shared |= {node.name for node in tree.body if isinstance(node, ast.ClassDef)}
            for function in ast.walk(tree):
                if isinstance(function, ast.FunctionDef):
                    names = {name for node in ast.walk(function) for name in bound_names(node)}
                    self.assertEqual(names & shared, set(), f"{path.name} {function.name}")

    def test_no_attribute_has_the_name_of_a_property(self):
        properties, attributes = set(), set()
        for where, node in trees():
            if isinstance(node, ast.FunctionDef) and any(getattr(one, "id", "") == "property" for one in node.decorator_list):
                properties.add(node.name)
            if isinstance(node, ast.Attribute) and isinstance(node.ctx, ast.Store):
                attributes.add(node.attr)
        self.assertIn("claims", properties)
        self.assertEqual(properties & attributes, set())

    def test_no_name_is_a_method_and_an_attribute(self):
        methods, attributes = set(), set()
        for where, node in trees():
            if isinstance(node, ast.ClassDef):
                methods |= {one.name for one in node.body if isinstance(one, ast.FunctionDef)}
            if isinstance(node, ast.Attribute) and isinstance(node.ctx, ast.Store):
                attributes.add(node.attr)
        self.assertEqual(methods & attributes, set())


if __name__ == "__main__":
    unittest.main()
