"""The form of the package's own files: a small part of Python, that means the same on every one."""

import ast
import builtins
import pathlib
import re
import unittest

PACKAGE = pathlib.Path(__file__).resolve().parent.parent / "gatherall"

STATEMENTS = (
    ast.Assign, ast.AugAssign, ast.If, ast.While, ast.For, ast.Return, ast.Break, ast.Continue, ast.Pass, ast.Raise,
    ast.Try, ast.Expr, ast.FunctionDef, ast.ClassDef, ast.ImportFrom,
)

EXPRESSIONS = (
    ast.BoolOp, ast.BinOp, ast.UnaryOp, ast.Lambda, ast.IfExp, ast.Dict, ast.ListComp, ast.Compare, ast.Call,
    ast.FormattedValue, ast.JoinedStr, ast.Constant, ast.Attribute, ast.Subscript, ast.Name, ast.List, ast.Tuple,
    ast.Slice,
)

BUILT_IN = (
    "len range enumerate zip min max sum abs sorted reversed int str bool list tuple dict set isinstance ord repr any "
    "all divmod Exception ValueError KeyError IndexError LookupError ZeroDivisionError"
).split()

METHODS = (
    "append clear copy count endswith extend find get index insert isalnum isalpha isdigit islower isspace isupper "
    "items join keys ljust lower lstrip partition pop remove replace reverse rfind rjust rpartition rsplit rstrip "
    "setdefault split splitlines startswith strip update upper values zfill bit_length"
).split()

NOT_WRITTEN = (
    "type typing typing_extensions enum Enum IntEnum StrEnum Flag IntFlag Generic Protocol ABC ABCMeta namedtuple "
    "NamedTuple TypedDict TYPE_CHECKING abstractmethod dataclass overload contextmanager"
).split()


def package_files():
    return sorted(path for path in PACKAGE.iterdir() if path.name != "__pycache__")


def nodes_of(tree, kind):
    return [node for node in ast.walk(tree) if isinstance(node, kind)]


def names_of(tree):
    bound = [node.id for node in nodes_of(tree, ast.Name) if isinstance(node.ctx, ast.Store)]
    arguments = [node.arg for node in nodes_of(tree, ast.arg)]
    defined = [node.name for node in nodes_of(tree, (ast.FunctionDef, ast.ClassDef))]
    imported = [alias.asname or alias.name for node in nodes_of(tree, ast.ImportFrom) for alias in node.names]
    return bound + arguments + defined + imported + values_of(tree)


def values_of(tree):
    return [node.attr for node in nodes_of(tree, ast.Attribute) if isinstance(node.ctx, ast.Store)]


def methods_of(tree):
    return [node.name for each in nodes_of(tree, ast.ClassDef) for node in each.body if isinstance(node, ast.FunctionDef)]


def classes_and_imports_of(tree):
    imported = [alias.name for node in nodes_of(tree, ast.ImportFrom) for alias in node.names]
    return imported + [node.name for node in nodes_of(tree, ast.ClassDef)]


class TestForm(unittest.TestCase):
    def each_tree(self):
        return [ast.parse(path.read_text(encoding="ascii")) for path in package_files()]

    def test_files(self):
        names = [path.name for path in package_files()]
        self.assertIn("__init__.py", names)
        for name in names:
            self.assertRegex(name, r"^(__init__|[a-z][a-z0-9_]*)\.py$")

    def test_lines(self):
        for path in package_files():
            text = path.read_bytes().decode("ascii")
            self.assertRegex(text, r"^[ -~\n]*\Z")
            lines = text.split("\n")
            self.assertLessEqual(len(lines), 400)
            self.assertLessEqual(max(len(line) for line in lines), 120)
            self.assertEqual([word for word in NOT_WRITTEN if re.search(r"\b" + word + r"\b", text)], [])

    def test_size_of_functions(self):
        for tree in self.each_tree():
            for node in nodes_of(tree, ast.FunctionDef):
                self.assertLessEqual(node.end_lineno - node.lineno + 1, 40, node.name)
                self.assertEqual(node.decorator_list, [])
                self.assertIsNone(node.args.vararg or node.args.kwarg)

    def test_statements_and_expressions(self):
        for tree in self.each_tree():
            for node in nodes_of(tree, ast.stmt):
                self.assertIsInstance(node, STATEMENTS)
            for node in nodes_of(tree, ast.expr):
                self.assertIsInstance(node, EXPRESSIONS)
            for node in nodes_of(tree, ast.ListComp):
                self.assertEqual(len(node.generators), 1)
            for node in nodes_of(tree, ast.Assign):
                self.assertEqual([isinstance(target, ast.Tuple) for target in node.targets], [False])
            for node in nodes_of(tree, ast.Constant):
                self.assertIn(type(node.value), (int, str, bool, type(None)))
            self.assertEqual(nodes_of(tree, ast.Div), [])
            for node in nodes_of(tree, ast.Compare):
                if isinstance(node.ops[0], (ast.Is, ast.IsNot)):
                    self.assertIn(ast.unparse(node.comparators[0]), ("None", "True", "False"))

    def test_numbers_and_texts(self):
        for tree in self.each_tree():
            for node in nodes_of(tree, ast.BinOp):
                if isinstance(node.op, ast.Pow):
                    self.assertIsInstance(node.right, ast.Constant)
            for node in nodes_of(tree, ast.Constant):
                self.assertNotIn("%", str(node.value))

    def test_keywords_of_calls(self):
        allowed = {"sorted": ["key", "reverse"], "min": ["key", "default"], "max": ["key", "default"]}
        for tree in self.each_tree():
            for node in nodes_of(tree, ast.Call):
                named = node.func.id if isinstance(node.func, ast.Name) else None
                self.assertLessEqual({each.arg for each in node.keywords}, set(allowed.get(named, [])))

    def test_imports_are_the_packages_own(self):
        drawn = {}
        for path in package_files():
            tree = ast.parse(path.read_text(encoding="ascii"))
            imports = nodes_of(tree, ast.ImportFrom)
            self.assertEqual([node for node in imports if node not in tree.body], [])
            for node in imports:
                self.assertRegex(node.module, r"^gatherall\.[a-z]+$")
                self.assertEqual([alias.name for alias in node.names if alias.name == "*"], [])
            drawn["gatherall." + path.stem] = [node.module for node in imports]
        self.assertEqual(drawn["gatherall.__init__"], [])
        while drawn:
            last = [name for name in drawn if not any(other in drawn for other in drawn[name])]
            self.assertNotEqual(last, [], "files draw from one another")
            for name in last:
                drawn.pop(name)

    def test_names(self):
        of_objects = [name for tree in self.each_tree() for name in methods_of(tree) + values_of(tree)]
        for tree in self.each_tree():
            names = names_of(tree)
            for name in names:
                self.assertRegex(name, r"^([A-Za-z][A-Za-z0-9_]*|__init__)$")
                self.assertNotIn(name, dir(builtins))
            for node in nodes_of(tree, ast.Name):
                self.assertIn(node.id, names + BUILT_IN)
            for node in nodes_of(tree, ast.Attribute):
                self.assertIn(node.attr, METHODS + of_objects)

    def test_no_parameter_or_local_is_called_like_a_class_or_an_import(self):
        for tree in self.each_tree():
            bound = [node.id for node in nodes_of(tree, ast.Name) if isinstance(node.ctx, ast.Store)]
            local = bound + [node.arg for node in nodes_of(tree, ast.arg)]
            self.assertEqual(sorted(set(local) & set(classes_and_imports_of(tree))), [])

    def test_each_import_is_used_and_defined_where_it_is_drawn_from(self):
        for tree in self.each_tree():
            used = [node.id for node in nodes_of(tree, ast.Name)]
            for node in nodes_of(tree, ast.ImportFrom):
                source = ast.parse((PACKAGE / (node.module.split(".")[1] + ".py")).read_text(encoding="ascii"))
                tops = [each.name for each in source.body if isinstance(each, (ast.FunctionDef, ast.ClassDef))]
                tops += [each.targets[0].id for each in source.body if isinstance(each, ast.Assign)]
                for alias in node.names:
                    self.assertIn(alias.name, tops)
                    self.assertIn(alias.name, used)

    def test_no_name_is_a_method_and_a_value(self):
        methods = [name for tree in self.each_tree() for name in methods_of(tree)]
        values = [name for tree in self.each_tree() for name in values_of(tree)]
        self.assertEqual(sorted(set(methods) & set(values)), [])

    def test_sets_are_put_in_order_on_the_spot(self):
        for tree in self.each_tree():
            calls = [node for node in nodes_of(tree, ast.Call) if isinstance(node.func, ast.Name)]
            within = [node.args[0] for node in calls if node.func.id in ("sorted", "len")]
            for node in calls:
                if node.func.id == "set":
                    self.assertIn(node, within)


if __name__ == "__main__":
    unittest.main()
