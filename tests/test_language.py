"""The rules of LANGUAGE.md that can be checked by a walk over the files."""

import ast
import builtins
import functools
import os
import re
import unittest

FOLDER = os.path.join(os.path.dirname(os.path.dirname(os.path.abspath(__file__))), "rightage")

BUILTINS = set(
    "len range enumerate zip min max sum abs sorted reversed int str bool bytes list tuple dict set frozenset "
    "isinstance ord repr any all divmod iter next super property staticmethod classmethod "
    "Exception ValueError TypeError KeyError IndexError LookupError ZeroDivisionError ArithmeticError "
    "OverflowError RuntimeError NotImplementedError AttributeError StopIteration NotImplemented".split())
METHODS = set(
    "append clear copy count endswith extend find get index insert isalnum isalpha isdigit islower isspace isupper "
    "items join keys ljust lower lstrip partition pop remove replace reverse rfind rjust rpartition rsplit rstrip "
    "setdefault split splitlines startswith strip update upper values zfill bit_length add discard sort "
    "title capitalize swapcase casefold center expandtabs removeprefix removesuffix rindex isascii isdecimal "
    "isnumeric istitle isidentifier isprintable translate __init__".split())
BARRED_WORDS = (
    "type typing typing_extensions enum Enum IntEnum StrEnum Flag IntFlag Generic Protocol ABC ABCMeta namedtuple "
    "NamedTuple TypedDict TYPE_CHECKING abstractmethod".split())
BARRED_NAMES = set(
    "register mro elements open input law version_info with_traceback add_note attrgetter breakpoint builtins compile "
    "copyright credits delattr dir eval exec exit gc getattr globals hasattr help id importlib license locals "
    "methodcaller os quit setattr type vars sys".split())
NO_GENERATOR = ("any", "all", "min", "max", "sum", "sorted")
AT_ONCE = ("zip", "enumerate", "reversed", "range")
AT_ONCE_METHODS = ("items", "keys", "values")
TAKES_AT_ONCE = ("list", "tuple", "dict", "sorted", "sum", "any", "all", "enumerate", "zip", "min", "max")
STATEMENTS = (
    ast.Assign, ast.AugAssign, ast.If, ast.While, ast.For, ast.Return, ast.Break, ast.Continue, ast.Pass, ast.Raise,
    ast.Assert, ast.Delete, ast.Nonlocal, ast.With, ast.Try, ast.Expr, ast.FunctionDef, ast.ClassDef, ast.ImportFrom)


@functools.lru_cache(maxsize=None)
def sources():
    """File name to text, of all files of the package."""
    told = {}
    for name in sorted(os.listdir(FOLDER)):
        if name != "__pycache__":
            with open(os.path.join(FOLDER, name), encoding="utf-8", newline="") as file:
                told[name] = file.read()
    return told


@functools.lru_cache(maxsize=None)
def all_nodes():
    return [(name, node) for name, text in sources().items() for node in ast.walk(ast.parse(text))]


def nodes(kinds):
    """(file name, node) of all nodes of these kinds."""
    return [(name, node) for name, node in all_nodes() if isinstance(node, kinds)]


def bound_names():
    """(file name, name) of all that is bound anywhere."""
    told = []
    for name, node in nodes((ast.Name, ast.arg, ast.FunctionDef, ast.ClassDef, ast.alias)):
        if isinstance(node, ast.Name) and isinstance(node.ctx, ast.Store):
            told.append((name, node.id))
        elif isinstance(node, ast.arg):
            told.append((name, node.arg))
        elif isinstance(node, (ast.FunctionDef, ast.ClassDef, ast.alias)):
            told.append((name, node.name))
    return told


@functools.lru_cache(maxsize=None)
def own_methods():
    return {row.name for name, node in nodes(ast.ClassDef) for row in node.body if isinstance(row, ast.FunctionDef)}


def is_at_once(node):
    """Whether it is a call of what is iterated on the spot and not kept."""
    if not isinstance(node, ast.Call):
        return False
    if isinstance(node.func, ast.Name):
        return node.func.id in AT_ONCE
    return isinstance(node.func, ast.Attribute) and node.func.attr in AT_ONCE_METHODS


def is_simple(node):
    """Whether it may be assigned in a finally."""
    if isinstance(node, (ast.Name, ast.Attribute, ast.Constant)):
        return True
    if isinstance(node, (ast.List, ast.Tuple)):
        return all(is_simple(part) for part in node.elts)
    return isinstance(node, ast.BinOp) and isinstance(node.op, ast.Add) and is_simple(node.left) and is_simple(node.right)


class TestFiles(unittest.TestCase):
    def test_names(self):
        for name in sources():
            self.assertRegex(name, r"^[a-z0-9_]+\.py$")
            self.assertNotIn(name[:-3], dir(builtins))
        self.assertIn("__init__.py", sources())

    def test_characters_and_lines(self):
        for name, text in sources().items():
            self.assertRegex(text, r"\A[ -~\n]*\Z", name)
            self.assertLess(len(text.splitlines()), 400, name)
            self.assertLessEqual(max([len(line) for line in text.splitlines()]), 120, name)

    def test_functions_are_short(self):
        for name, node in nodes(ast.FunctionDef):
            self.assertLessEqual(node.end_lineno - node.lineno + 1, 40, (name, node.name))

    def test_words_that_do_not_occur(self):
        for name, text in sources().items():
            for word in BARRED_WORDS:
                self.assertIsNone(re.search(rf"\b{word}\b", text), (name, word))
            for word in ("dataclass", "overload", "contextmanager"):
                self.assertNotIn(word, text, name)


class TestImports(unittest.TestCase):
    def test_forms(self):
        self.assertEqual(nodes(ast.Import), [])
        for name, node in nodes(ast.ImportFrom):
            self.assertEqual(node.level, 0, name)
            self.assertRegex(node.module, r"^rightage\.[a-z0-9_]+$")

    def test_from_the_file_that_defines_the_name(self):
        texts = sources()
        for name, node in nodes(ast.ImportFrom):
            tree = ast.parse(texts[node.module.split(".")[1] + ".py"])
            defined = [row.name for row in tree.body if isinstance(row, (ast.FunctionDef, ast.ClassDef))]
            defined += [row.targets[0].id for row in tree.body if isinstance(row, ast.Assign)]
            for alias in node.names:
                self.assertIn(alias.name, defined, name)

    def test_no_circle(self):
        reads = {name: set() for name in sources()}
        for name, node in nodes(ast.ImportFrom):
            reads[name].add(node.module.split(".")[1] + ".py")
        while reads:
            free = [name for name in reads if not reads[name] & set(reads)]
            self.assertTrue(free, reads)
            for name in free:
                del reads[name]


class TestNames(unittest.TestCase):
    def test_bound_names_are_plain(self):
        for name, bound in bound_names():
            if bound not in ("__init__", "__eq__", "__len__", "__str__", "__repr__"):
                self.assertRegex(bound, r"^[A-Za-z][A-Za-z0-9_]*$", name)
                self.assertNotIn(bound, BARRED_NAMES, name)
            if bound not in own_methods():
                self.assertNotIn(bound, dir(builtins), name)

    def test_bound_once_at_module_level(self):
        for name, text in sources().items():
            told = []
            for row in ast.parse(text).body:
                if isinstance(row, (ast.FunctionDef, ast.ClassDef)):
                    told.append(row.name)
                elif isinstance(row, ast.Assign):
                    told += [target.id for target in row.targets]
                elif isinstance(row, ast.ImportFrom):
                    told += [alias.asname or alias.name for alias in row.names]
            self.assertEqual(sorted(set(told)), sorted(told), name)

    def test_no_local_name_is_an_import_or_a_class(self):
        taken = {(name, alias.asname or alias.name) for name, node in nodes(ast.ImportFrom) for alias in node.names}
        taken |= {(name, node.name) for name, node in nodes(ast.ClassDef)}
        local = {(name, node.arg) for name, node in nodes(ast.arg)}
        local |= {(name, node.id) for name, node in nodes(ast.Name) if isinstance(node.ctx, ast.Store)}
        self.assertEqual(taken & local, set())

    def test_builtins_that_are_let(self):
        for name, node in nodes(ast.Name):
            if node.id in dir(builtins):
                self.assertIn(node.id, BUILTINS, (name, node.lineno))

    def test_methods_that_are_let(self):
        for name, node in nodes(ast.Call):
            if isinstance(node.func, ast.Attribute):
                self.assertIn(node.func.attr, METHODS | own_methods(), (name, node.lineno))

    def test_no_name_is_a_method_and_an_attribute(self):
        attributes = {node.attr for name, node in nodes(ast.Attribute) if isinstance(node.ctx, ast.Store)}
        self.assertEqual(attributes & own_methods(), set())


class TestCode(unittest.TestCase):
    def test_statements_that_are_let(self):
        for name, node in nodes(ast.stmt):
            self.assertIsInstance(node, STATEMENTS, (name, node.lineno))

    def test_values_that_are_let(self):
        for name, node in nodes(ast.Constant):
            self.assertNotIsInstance(node.value, (float, complex), name)
            if isinstance(node.value, str):
                self.assertNotIn(chr(37), node.value, name)

    def test_no_division_with_a_rest_lost(self):
        self.assertEqual([(name, node.lineno) for name, node in nodes((ast.BinOp, ast.AugAssign))
                          if isinstance(node.op, ast.Div)], [])

    def test_is_only_with_none_true_and_false(self):
        for name, node in nodes(ast.Compare):
            for sign, other in zip(node.ops, node.comparators):
                if isinstance(sign, (ast.Is, ast.IsNot)):
                    self.assertIsInstance(other, ast.Constant, (name, node.lineno))
                    self.assertIn(other.value, (None, True, False), (name, node.lineno))

    def test_lists_where_generators_are_not_let(self):
        for name, node in nodes(ast.Call):
            if isinstance(node.func, ast.Name) and node.func.id in NO_GENERATOR:
                for handed in node.args:
                    self.assertNotIsInstance(handed, ast.GeneratorExp, (name, node.lineno))

    def test_iterated_at_once(self):
        let = []
        for name, node in nodes((ast.For, ast.comprehension)):
            let.append(node.iter)
        for name, node in nodes(ast.Call):
            if isinstance(node.func, ast.Name) and node.func.id in TAKES_AT_ONCE:
                let += node.args
            if isinstance(node.func, ast.Name) and node.func.id == "len":
                self.assertFalse([part for part in node.args if is_at_once(part)], (name, node.lineno))
        for name, node in nodes(ast.Call):
            if is_at_once(node):
                self.assertTrue(any(node is one for one in let), (name, node.lineno))

    def test_powers_are_of_literals(self):
        for name, node in nodes(ast.BinOp):
            if isinstance(node.op, ast.Pow):
                self.assertIsInstance(node.right, ast.Constant, (name, node.lineno))
                self.assertIn(node.right.value, range(65), (name, node.lineno))

    def test_what_is_raised_is_made_on_the_spot(self):
        for name, node in nodes(ast.Raise):
            self.assertIsInstance(node.exc, ast.Call, (name, node.lineno))
            self.assertIsInstance(node.exc.func, ast.Name, (name, node.lineno))

    def test_errors_that_are_caught(self):
        own = {node.name for name, node in nodes(ast.ClassDef)}
        for name, node in nodes(ast.ExceptHandler):
            self.assertIsInstance(node.type, ast.Name, (name, node.lineno))
            self.assertIn(node.type.id, own | {"KeyError", "ZeroDivisionError"}, (name, node.lineno))

    def test_what_stands_in_a_finally(self):
        for name, node in nodes(ast.Try):
            for row in node.finalbody:
                self.assertIsInstance(row, ast.Assign, (name, row.lineno))
                self.assertEqual(len(row.targets), 1)
                self.assertIsInstance(row.targets[0], (ast.Name, ast.Attribute), (name, row.lineno))
                self.assertTrue(is_simple(row.value), (name, row.lineno))

    def test_methods_of_python_change_nothing(self):
        for name, node in nodes(ast.FunctionDef):
            if node.name in ("__eq__", "__len__", "__str__", "__repr__"):
                self.assertIsInstance(node.body[-1], ast.Return, (name, node.lineno))
                for row in ast.walk(node):
                    self.assertNotIsInstance(row, (ast.Assign, ast.AugAssign, ast.Delete, ast.For), (name, node.lineno))

    def test_texts_with_braces_stand_on_one_line(self):
        for name, node in nodes(ast.JoinedStr):
            self.assertEqual(node.lineno, node.end_lineno, name)

    def test_no_stroke_among_parameters(self):
        for name, node in nodes(ast.arguments):
            self.assertEqual(node.posonlyargs, [], name)

    def test_sets_and_comprehensions_in_functions_only(self):
        for name, text in sources().items():
            for row in ast.parse(text).body:
                if isinstance(row, ast.Assign):
                    for node in ast.walk(row):
                        self.assertNotIsInstance(node, (ast.Set, ast.ListComp, ast.DictComp, ast.Lambda), name)


if __name__ == "__main__":
    unittest.main()
