"""Some of the rules of ../shared/LANGUAGE.md, asked of every file of the package; the others are kept by reading."""

import ast
import builtins
import pathlib
import re
import unittest

PACKAGE = pathlib.Path(__file__).resolve().parent.parent / "sureroad"

ERRORS = (
    "Exception ValueError TypeError KeyError IndexError LookupError ZeroDivisionError ArithmeticError "
    "OverflowError RuntimeError NotImplementedError AttributeError StopIteration"
).split()
OWN_NAMES = (
    "len range enumerate zip min max sum abs sorted reversed int str bool list tuple dict set frozenset "
    "isinstance ord repr any all divmod"
).split() + ERRORS
METHODS = (
    "append clear copy count endswith extend find get index insert isalnum isalpha isdigit islower isspace isupper "
    "items join keys ljust lower lstrip partition pop remove replace reverse rfind rjust rpartition rsplit rstrip "
    "setdefault split splitlines startswith strip update upper values zfill bit_length"
).split()
WORDS_OUT = (
    "type typing typing_extensions enum Enum IntEnum StrEnum Flag IntFlag Generic Protocol ABC ABCMeta namedtuple "
    "NamedTuple TypedDict TYPE_CHECKING abstractmethod"
).split()
PARTS_OUT = ("dataclass", "overload", "contextmanager")
NAMES_OUT = (
    "register mro elements open input version_info with_traceback add_note attrgetter breakpoint builtins compile "
    "copyright credits delattr dir eval exec exit gc getattr globals hasattr help id importlib license locals "
    "methodcaller os quit setattr super type vars sys __name__ chr print"
).split()
STATEMENTS = (
    ast.Assign, ast.AugAssign, ast.If, ast.While, ast.For, ast.Return, ast.Break, ast.Continue, ast.Pass, ast.Raise,
    ast.Try, ast.Expr, ast.FunctionDef, ast.ClassDef, ast.ImportFrom,
)
EXPRESSIONS_OUT = (
    ast.GeneratorExp, ast.SetComp, ast.DictComp, ast.NamedExpr, ast.Starred, ast.Yield, ast.YieldFrom, ast.Await,
    ast.Div, ast.MatMult,
)
DUNDERS = ("__init__", "__eq__", "__repr__", "__str__", "__len__")
PYTHON_NAMES = dir(builtins)
WALKED = ("zip", "enumerate", "reversed", "range")
WALKED_METHODS = ("items", "keys", "values")
WALKERS = ("list", "tuple", "dict", "sorted", "sum", "any", "all", "enumerate", "zip", "min", "max")
KEYWORDS = {"sorted": ("key", "reverse"), "min": ("key", "default"), "max": ("key", "default"), "sum": ("start",),
            "enumerate": ("start",), "zip": ("strict",)}
OWN_REFUSALS = ("RoadError", "NoMessage", "NoCard", "NoStrip")
VALUES_OF_OBJECTS = "count index title find get join lower upper split strip copy add".split()
NAMES_OF_PYTHON_VALUES = set(dir(str) + dir(int) + dir(list) + dir(tuple) + dir(dict) + dir(set) + dir(bytes) + ["args"])


def package_files():
    return sorted(path for path in PACKAGE.rglob("*") if path.is_file() and "__pycache__" not in path.parts)


def parsed_files():
    texts = [(path.name, path.read_text(encoding="utf-8")) for path in package_files()]
    return [(name, text, ast.parse(text)) for name, text in texts]


def nodes(kind):
    """Every node of the kind, with the place to name where it is out of the rules."""
    found = []
    for name, _, tree in parsed_files():
        for node in ast.walk(tree):
            if isinstance(node, kind):
                found.append((f"{name}, line {getattr(node, 'lineno', '?')}", node))
    return found


def is_docstring(node, tree):
    return bool(tree.body) and node is tree.body[0] and isinstance(node.value, ast.Constant)


class LanguageTest(unittest.TestCase):
    def test_files(self):
        names = [path.name for path in package_files()]
        self.assertIn("__init__.py", names)
        for path in package_files():
            self.assertEqual(path.parent, PACKAGE)
            self.assertRegex(path.name, r"\A(__init__|__main__|[a-z][a-z0-9_]*)\.py\Z")
            self.assertNotIn(path.stem, PYTHON_NAMES)

    def test_signs_and_sizes(self):
        for name, text, _ in parsed_files():
            self.assertRegex(text, r"\A[ -~\n]*\Z", name)
            lines = text.split("\n")
            self.assertLessEqual(len(lines), 400, name)
            self.assertLessEqual(max(len(line) for line in lines), 120, name)
        for where, node in nodes(ast.FunctionDef):
            self.assertLessEqual(node.end_lineno - node.lineno + 1, 40, where)

    def test_words(self):
        for name, text, _ in parsed_files():
            words = set(re.findall(r"\w+", text))
            self.assertEqual(words & set(WORDS_OUT), set(), name)
            self.assertEqual([part for part in PARTS_OUT if part in text], [], name)

    def test_imports(self):
        for where, row in nodes((ast.Import, ast.ImportFrom)):
            self.assertIsInstance(row, ast.ImportFrom, where)
            self.assertEqual(row.level, 0, where)
            self.assertRegex(row.module, r"\Asureroad\.[a-z_]+\Z", where)
            source = ast.parse((PACKAGE / (row.module.split(".")[1] + ".py")).read_text(encoding="utf-8"))
            defined = [node.name for node in source.body if isinstance(node, (ast.FunctionDef, ast.ClassDef))]
            defined += [node.targets[0].id for node in source.body if isinstance(node, ast.Assign)]
            for alias in row.names:
                self.assertIsNone(alias.asname, where)
                self.assertIn(alias.name, defined, where)

    def test_the_top_of_a_file_binds_each_name_once(self):
        for name, _, tree in parsed_files():
            bound = []
            for node in tree.body:
                if isinstance(node, ast.Expr):
                    self.assertTrue(is_docstring(node, tree), name)
                elif isinstance(node, ast.ImportFrom):
                    bound += [alias.name for alias in node.names]
                elif isinstance(node, ast.Assign):
                    bound.append(node.targets[0].id)
                else:
                    self.assertIsInstance(node, (ast.FunctionDef, ast.ClassDef), name)
                    bound.append(node.name)
            self.assertEqual(sorted(bound), sorted(set(bound)), name)

    def test_statements(self):
        for where, node in nodes(ast.stmt):
            self.assertIsInstance(node, STATEMENTS, where)
            if isinstance(node, (ast.While, ast.For)):
                self.assertEqual(node.orelse, [], where)
            if isinstance(node, ast.Try):
                self.assertEqual(node.finalbody, [], where)
            if isinstance(node, ast.Assign):
                self.assertEqual(len(node.targets), 1, where)
        for name, _, tree in parsed_files():
            for node in ast.walk(tree):
                if isinstance(node, ast.Expr) and not is_docstring(node, tree):
                    self.assertIsInstance(node.value, ast.Call, name)

    def test_expressions(self):
        for where, node in nodes((ast.expr, ast.operator)):
            self.assertNotIsInstance(node, EXPRESSIONS_OUT, where)
            if isinstance(node, ast.Constant):
                self.assertTrue(node.value is None or isinstance(node.value, (int, str)), where)
                self.assertFalse(isinstance(node.value, str) and "%" in node.value, where)
            if isinstance(node, ast.ListComp):
                self.assertEqual(len(node.generators), 1, where)
                self.assertLessEqual(len(node.generators[0].ifs), 1, where)

    def test_is_stands_beside_none_and_truths_alone(self):
        for where, node in nodes(ast.Compare):
            for operator, right in zip(node.ops, node.comparators):
                if isinstance(operator, (ast.Is, ast.IsNot)):
                    self.assertIsInstance(right, ast.Constant, where)
                    self.assertIn(right.value, (None, True, False), where)

    def test_functions(self):
        for where, node in nodes(ast.FunctionDef):
            self.assertEqual(node.decorator_list, [], where)
            self.assertIsNone(node.args.vararg, where)
            self.assertIsNone(node.args.kwarg, where)
            self.assertEqual(node.args.kwonlyargs + node.args.posonlyargs, [], where)
            for argument in node.args.args:
                self.assertNotIn(argument.arg, PYTHON_NAMES, where)
                self.assertFalse(argument.arg.startswith("_"), where)

    def test_classes(self):
        for where, node in nodes(ast.ClassDef):
            self.assertEqual(node.decorator_list + node.keywords, [], where)
            self.assertLessEqual(len(node.bases), 1, where)
            for part in node.body:
                self.assertIsInstance(part, (ast.FunctionDef, ast.Pass), where)
                if isinstance(part, ast.FunctionDef) and part.name.startswith("_"):
                    self.assertIn(part.name, DUNDERS, where)

    def test_names(self):
        for where, node in nodes(ast.Name):
            self.assertNotIn(node.id, NAMES_OUT, where)
            self.assertFalse(node.id.startswith("_"), where)
            if node.id in PYTHON_NAMES:
                self.assertIsInstance(node.ctx, ast.Load, where)
                self.assertIn(node.id, OWN_NAMES, where)

    def test_locals_hide_nothing(self):
        for name, _, tree in parsed_files():
            taken = [alias.name for row in tree.body if isinstance(row, ast.ImportFrom) for alias in row.names]
            taken += [row.name for row in tree.body if isinstance(row, ast.ClassDef)]
            for node in ast.walk(tree):
                if isinstance(node, ast.Name) and isinstance(node.ctx, ast.Store):
                    self.assertNotIn(node.id, taken + PYTHON_NAMES, name)
                if isinstance(node, ast.arg):
                    self.assertNotIn(node.arg, taken + PYTHON_NAMES, name)

    def test_no_two_files_draw_from_one_another(self):
        drawn = {}
        for name, _, tree in parsed_files():
            rows = [row for row in tree.body if isinstance(row, ast.ImportFrom)]
            drawn[name[:-3]] = [row.module.split(".")[1] for row in rows]
        while drawn:
            free = [name for name in drawn if not set(drawn[name]) & set(drawn)]
            self.assertNotEqual(free, [], drawn)
            for name in free:
                drawn.pop(name)

    def test_methods_and_values_have_names_of_their_own(self):
        methods, values = set(), set()
        for where, node in nodes(ast.ClassDef):
            own = [part.name for part in node.body if isinstance(part, ast.FunctionDef)]
            self.assertEqual(sorted(own), sorted(set(own)), where)
            methods |= set(own) - set(DUNDERS)
        for where, node in nodes(ast.Attribute):
            if isinstance(node.ctx, ast.Store):
                self.assertIsInstance(node.value, ast.Name, where)
                values.add(node.attr)
            self.assertNotIn(node.attr, NAMES_OUT + ["format", "format_map"], where)
            self.assertFalse(node.attr.startswith("_"), where)
        self.assertEqual(methods & values, set())
        self.assertEqual(methods & NAMES_OF_PYTHON_VALUES, set())
        self.assertEqual(values & NAMES_OF_PYTHON_VALUES - set(VALUES_OF_OBJECTS), set())

    def test_no_annotations(self):
        for where, node in nodes((ast.FunctionDef, ast.arg)):
            self.assertIsNone(node.returns if isinstance(node, ast.FunctionDef) else node.annotation, where)

    def test_keywords(self):
        for where, node in nodes(ast.Call):
            allowed = KEYWORDS.get(node.func.id, ()) if isinstance(node.func, ast.Name) else ()
            for keyword in node.keywords:
                self.assertIn(keyword.arg, allowed, where)

    def test_what_is_walked_is_walked_on_the_spot(self):
        for name, _, tree in parsed_files():
            spots = []
            for node in ast.walk(tree):
                if isinstance(node, (ast.For, ast.comprehension)):
                    spots.append(node.iter)
                if isinstance(node, ast.Call) and isinstance(node.func, ast.Name) and node.func.id in WALKERS:
                    spots += node.args
            for node in ast.walk(tree):
                if isinstance(node, ast.Call):
                    plain = isinstance(node.func, ast.Name) and node.func.id in WALKED
                    of_dict = isinstance(node.func, ast.Attribute) and node.func.attr in WALKED_METHODS
                    if plain or of_dict:
                        self.assertIn(node, spots, f"{name}, line {node.lineno}")

    def test_no_sets_and_no_powers(self):
        for where, node in nodes((ast.Set, ast.Pow)):
            self.fail(where)
        for where, node in nodes(ast.Name):
            self.assertNotIn(node.id, ("set", "frozenset"), where)

    def test_errors_are_taken_by_their_own_names(self):
        for where, node in nodes(ast.ExceptHandler):
            self.assertIsInstance(node.type, ast.Name, where)
            self.assertIn(node.type.id, OWN_REFUSALS, where)
        for where, node in nodes(ast.Raise):
            self.assertIsInstance(node.exc, ast.Call, where)
            self.assertIn(node.exc.func.id, OWN_REFUSALS, where)

    def test_init_gives_back_nothing(self):
        for where, node in nodes(ast.FunctionDef):
            if node.name == "__init__":
                self.assertEqual([part for part in ast.walk(node) if isinstance(part, ast.Return)], [], where)

    def test_methods(self):
        own = [node.name for _, node in nodes(ast.FunctionDef)]
        for where, node in nodes(ast.Call):
            if isinstance(node.func, ast.Attribute):
                self.assertIn(node.func.attr, METHODS + own, where)


if __name__ == "__main__":
    unittest.main()
