"""The package's own files keep to the part of Python that the project is written in (rules L1 to L28)."""

import ast
import pathlib
import re
import unittest

PACKAGE = pathlib.Path(__file__).resolve().parent.parent / "greyhall"

STATEMENTS = (
    ast.Assign, ast.AugAssign, ast.If, ast.While, ast.For, ast.Return, ast.Break, ast.Continue, ast.Pass,
    ast.Raise, ast.Try, ast.Expr, ast.FunctionDef, ast.ClassDef, ast.ImportFrom,
)
EXPRESSIONS = (
    ast.Constant, ast.List, ast.Tuple, ast.Dict, ast.BinOp, ast.UnaryOp, ast.BoolOp, ast.Compare, ast.IfExp,
    ast.Call, ast.Attribute, ast.Subscript, ast.Slice, ast.ListComp, ast.JoinedStr, ast.FormattedValue,
    ast.Name, ast.Lambda,
)
BUILTINS = """len range enumerate zip min max sum abs sorted reversed int str bool list tuple dict set frozenset
isinstance ord repr any all divmod Exception ValueError TypeError KeyError IndexError LookupError
ZeroDivisionError ArithmeticError OverflowError RuntimeError NotImplementedError StopIteration""".split()
METHODS = """append clear copy count endswith extend find get index insert isalnum isalpha isdigit islower isspace
isupper items join keys ljust lower lstrip partition pop remove replace reverse rfind rjust rpartition rsplit
rstrip setdefault split splitlines startswith strip update upper values zfill bit_length""".split()
WALKED_AT_ONCE = ("zip", "enumerate", "reversed", "range")
WORDS_NOWHERE = re.compile(
    r"\b(type|typing|typing_extensions|enum|Enum|IntEnum|StrEnum|Flag|IntFlag|Generic|Protocol|ABC|ABCMeta"
    r"|namedtuple|NamedTuple|TypedDict|TYPE_CHECKING|abstractmethod)\b|dataclass|overload|contextmanager")
NAMES_NOWHERE = """register mro elements open input version_info with_traceback add_note format format_map
sort args encode""".split()
DUNDERS = ("__init__", "__eq__", "__repr__", "__str__", "__len__")
VALUES_ALIKE = (str, int, list, dict, set, bytes, tuple)
VALUES_FREE = "count index title find get join lower upper split strip copy add".split()


def files():
    return sorted(PACKAGE.glob("*.py"))


def trees():
    return {path.name: ast.parse(path.read_text("ascii")) for path in files()}


def nodes(kind):
    return [(name, node) for name, tree in trees().items() for node in ast.walk(tree) if isinstance(node, kind)]


def methods(tree_class):
    return [part for part in tree_class.body if isinstance(part, ast.FunctionDef)]


class Files(unittest.TestCase):
    def test_the_package_holds_plain_python_files_alone(self):
        for path in PACKAGE.iterdir():
            if path.name != "__pycache__":
                self.assertRegex(path.name, r"^[a-z_][a-z0-9_]*\.py$")
                self.assertNotRegex(path.name, r"^(test.*|site|conftest|sitecustomize|usercustomize)\.py$")
        self.assertTrue((PACKAGE / "__init__.py").is_file())

    def test_lines_and_signs(self):
        for path in files():
            text = path.read_text("ascii")
            lines = text.split("\n")
            self.assertLessEqual(len(lines), 400, path.name)
            self.assertRegex(text, r"^[ -~\n]*$")
            self.assertTrue(all(len(line) <= 120 for line in lines), path.name)

    def test_words_that_stand_nowhere(self):
        for path in files():
            self.assertIsNone(WORDS_NOWHERE.search(path.read_text("ascii")), path.name)


class Tops(unittest.TestCase):
    def test_only_docstrings_imports_defs_classes_and_plain_values(self):
        for name, tree in trees().items():
            self.assertIsNotNone(ast.get_docstring(tree), name)
            bound = []
            for part in tree.body[1:]:
                self.assertIsInstance(part, (ast.ImportFrom, ast.FunctionDef, ast.ClassDef, ast.Assign))
                if isinstance(part, ast.Assign):
                    self.assertIsInstance(ast.literal_eval(part.value), (int, str))
                    bound.append(part.targets[0].id)
                elif isinstance(part, ast.ImportFrom):
                    bound.extend(alias.name for alias in part.names)
                else:
                    bound.append(part.name)
            self.assertEqual(len(bound), len(set(bound)), name)

    def test_imports_are_from_the_files_that_define_the_names(self):
        defined = {}
        for name, tree in trees().items():
            tops = [part for part in tree.body if isinstance(part, (ast.FunctionDef, ast.ClassDef))]
            values = [part.targets[0].id for part in tree.body if isinstance(part, ast.Assign)]
            defined["greyhall." + name[:-3]] = [part.name for part in tops] + values
        for name, node in nodes(ast.ImportFrom):
            self.assertEqual(node.level, 0)
            for alias in node.names:
                self.assertIn(alias.name, defined[node.module], name)
                self.assertIsNone(alias.asname)

    def test_no_two_files_draw_from_one_another(self):
        drawn = {name[:-3]: set() for name in trees()}
        for name, node in nodes(ast.ImportFrom):
            drawn[name[:-3]] |= {node.module.partition(".")[2], "__init__"}
        while drawn:
            free = [name for name in drawn if not drawn[name] & set(drawn)]
            self.assertTrue(free, drawn)
            for name in free:
                drawn.pop(name)


class Forms(unittest.TestCase):
    def test_statements_and_expressions(self):
        for name, node in nodes(ast.stmt):
            self.assertIsInstance(node, STATEMENTS, name)
        for name, node in nodes(ast.expr):
            self.assertIsInstance(node, EXPRESSIONS, name)
        for name, node in nodes(ast.BinOp):
            self.assertNotIsInstance(node.op, (ast.Div, ast.MatMult, ast.Pow), name)
        for name, node in nodes(ast.Constant):
            self.assertNotIsInstance(node.value, (float, complex, bytes), name)

    def test_expressions_by_themselves_are_calls(self):
        for name, tree in trees().items():
            for node in ast.walk(tree):
                if isinstance(node, ast.Expr) and node is not tree.body[0]:
                    self.assertIsInstance(node.value, ast.Call, name)

    def test_assignments_have_one_target(self):
        for name, node in nodes(ast.Assign):
            self.assertEqual(len(node.targets), 1, name)
            self.assertIsInstance(node.targets[0], (ast.Name, ast.Attribute, ast.Subscript), name)

    def test_loops_have_no_else(self):
        for name, node in nodes((ast.For, ast.While)):
            self.assertEqual(node.orelse, [], name)

    def test_functions(self):
        for name, node in nodes(ast.FunctionDef):
            self.assertLessEqual(node.end_lineno - node.lineno + 1, 40, node.name)
            self.assertEqual(node.decorator_list, [], node.name)
            handed = node.args
            self.assertEqual([handed.vararg, handed.kwarg, handed.kwonlyargs, handed.posonlyargs], [None, None, [], []])

    def test_comprehensions(self):
        for name, node in nodes(ast.ListComp):
            self.assertEqual(len(node.generators), 1, name)
            self.assertLessEqual(len(node.generators[0].ifs), 1, name)

    def test_is_stands_beside_none_true_and_false_alone(self):
        for name, node in nodes(ast.Compare):
            for operator, right in zip(node.ops, node.comparators):
                if isinstance(operator, (ast.Is, ast.IsNot)):
                    self.assertIsInstance(right, ast.Constant, name)
                    self.assertIn(repr(right.value), ("None", "True", "False"))

    def test_walks_and_ways_into_a_dict_are_not_kept(self):
        for name, node in nodes((ast.Assign, ast.Return)):
            if isinstance(node.value, ast.Call):
                called = node.value.func
                if isinstance(called, ast.Name):
                    self.assertNotIn(called.id, WALKED_AT_ONCE, name)
                if isinstance(called, ast.Attribute):
                    self.assertNotIn(called.attr, ("items", "keys", "values"), name)


class Names(unittest.TestCase):
    def bound(self, tree):
        found = [node.id for node in ast.walk(tree) if isinstance(node, ast.Name) and isinstance(node.ctx, ast.Store)]
        found += [node.arg for node in ast.walk(tree) if isinstance(node, ast.arg)]
        return found

    def test_names_are_plain(self):
        for name, tree in trees().items():
            names = self.bound(tree)
            defs = (ast.FunctionDef, ast.ClassDef)
            names += [node.name for node in ast.walk(tree) if isinstance(node, defs)]
            names += [node.attr for node in ast.walk(tree) if isinstance(node, ast.Attribute)]
            for each in names:
                self.assertNotIn(each, NAMES_NOWHERE, name)
                if each not in DUNDERS:
                    self.assertRegex(each, r"^[A-Za-z][A-Za-z0-9_]*$", name)

    def test_no_local_is_called_like_a_class_an_import_or_pythons_own(self):
        own = dir(__import__("builtins"))
        for name, tree in trees().items():
            taken = list(own)
            for part in tree.body:
                if isinstance(part, ast.ImportFrom):
                    taken += [alias.name for alias in part.names]
                if isinstance(part, ast.ClassDef):
                    taken.append(part.name)
            for each in self.bound(tree):
                self.assertNotIn(each, taken, name)

    def test_names_read_are_bound_or_listed(self):
        for name, tree in trees().items():
            known = BUILTINS + self.bound(tree)
            for node in ast.walk(tree):
                if isinstance(node, (ast.FunctionDef, ast.ClassDef)):
                    known.append(node.name)
                if isinstance(node, ast.ImportFrom):
                    known += [alias.name for alias in node.names]
            for node in ast.walk(tree):
                if isinstance(node, ast.Name):
                    self.assertIn(node.id, known, name)

    def test_called_methods_are_listed_or_own(self):
        own = [part.name for _, node in nodes(ast.ClassDef) for part in methods(node)]
        for name, node in nodes(ast.Call):
            if isinstance(node.func, ast.Attribute):
                self.assertIn(node.func.attr, METHODS + own, name)


class Classes(unittest.TestCase):
    def test_bodies_hold_methods_alone_and_one_base_at_most(self):
        for name, node in nodes(ast.ClassDef):
            self.assertLessEqual(len(node.bases), 1)
            self.assertEqual((node.decorator_list, node.keywords), ([], []))
            for part in node.body:
                self.assertIsInstance(part, (ast.FunctionDef, ast.Pass), node.name)
            names = [part.name for part in methods(node)]
            self.assertEqual(len(names), len(set(names)), node.name)

    def test_no_name_is_a_method_here_and_a_value_there(self):
        own = {part.name for _, node in nodes(ast.ClassDef) for part in methods(node)}
        values = {node.attr for _, node in nodes(ast.Attribute) if isinstance(node.ctx, ast.Store)}
        self.assertEqual(own & values, set())

    def test_own_names_are_free(self):
        taken = {name for kind in VALUES_ALIKE for name in dir(kind)}
        own = {part.name for _, node in nodes(ast.ClassDef) for part in methods(node)}
        values = {node.attr for _, node in nodes(ast.Attribute) if isinstance(node.ctx, ast.Store)}
        self.assertEqual(own & taken - set(METHODS) - set(DUNDERS) - {"add", "discard"}, set())
        self.assertEqual(values & taken - set(VALUES_FREE), set())


if __name__ == "__main__":
    unittest.main()
