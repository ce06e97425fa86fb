"""The package keeps to a small part of Python: those of the language's rules that a look at the code can see."""

import ast
import builtins
import pathlib
import re
import unittest

import halvedpictures

PACKAGE = "halvedpictures"
FOLDER = pathlib.Path(halvedpictures.__file__).parent

OWN_NAMES = set("""
    len range enumerate zip min max sum abs sorted reversed int str bool bytes list tuple dict set frozenset
    isinstance ord repr any all divmod Exception ValueError TypeError KeyError IndexError LookupError
    ZeroDivisionError ArithmeticError OverflowError RuntimeError NotImplementedError AttributeError StopIteration
""".split())
UNDERSCORED = {"__init__", "__eq__", "__repr__", "__str__", "__len__"}
NODES = (
    ast.Module, ast.Expr, ast.Constant, ast.ImportFrom, ast.alias, ast.FunctionDef, ast.arguments, ast.arg,
    ast.ClassDef, ast.Assign, ast.AugAssign, ast.If, ast.While, ast.For, ast.Return, ast.Break, ast.Continue,
    ast.Pass, ast.Raise, ast.Try, ast.ExceptHandler, ast.Assert, ast.Delete, ast.Name, ast.Attribute,
    ast.Subscript, ast.Slice, ast.Starred, ast.List, ast.Tuple, ast.Dict, ast.Set, ast.BinOp, ast.UnaryOp,
    ast.BoolOp, ast.Compare, ast.IfExp, ast.Call, ast.keyword, ast.ListComp, ast.DictComp, ast.SetComp,
    ast.comprehension, ast.JoinedStr, ast.FormattedValue, ast.Lambda, ast.expr_context, ast.boolop, ast.unaryop,
    ast.cmpop, ast.Add, ast.Sub, ast.Mult, ast.FloorDiv, ast.Mod, ast.Pow, ast.LShift, ast.RShift, ast.BitAnd,
    ast.BitOr, ast.BitXor,
)
AT_THE_TOP = (ast.Expr, ast.ImportFrom, ast.FunctionDef, ast.ClassDef, ast.Assign)
NOWHERE = re.compile(
    r"\b(type|typing|typing_extensions|enum|Enum|IntEnum|StrEnum|Flag|IntFlag|Generic|Protocol|ABC|ABCMeta"
    r"|namedtuple|NamedTuple|TypedDict|TYPE_CHECKING|abstractmethod)\b|dataclass|overload|contextmanager")
UNUSED = set("""
    register mro elements open input version_info with_traceback add_note attrgetter breakpoint builtins compile
    copyright credits delattr dir eval exec exit gc getattr globals hasattr help id importlib license locals
    methodcaller os quit setattr super vars sys format format_map chr args
""".split())

METHODS = set("""
    append clear copy count endswith extend find get index insert isalnum isalpha isdigit islower isspace isupper
    items join keys ljust lower lstrip partition pop remove replace reverse rfind rjust rpartition rsplit rstrip
    setdefault split splitlines startswith strip update upper values zfill bit_length title capitalize swapcase
    casefold center expandtabs removeprefix removesuffix rindex isascii isdecimal isnumeric istitle isidentifier
    isprintable encode decode hex
""".split())


def files():
    return sorted(FOLDER.rglob("*.py"))


def trees():
    return [(path.name, ast.parse(path.read_text("ascii"))) for path in files()]


def top_names(tree):
    """Each name that is bound at a file's top, as often as it is."""
    names = []
    for row in tree.body:
        if isinstance(row, ast.ImportFrom):
            names += [alias.asname or alias.name for alias in row.names]
        if isinstance(row, (ast.FunctionDef, ast.ClassDef)):
            names.append(row.name)
        if isinstance(row, ast.Assign):
            names += [target.id for target in row.targets]
    return names


def drawn(tree):
    return [row for row in tree.body if isinstance(row, ast.ImportFrom)]


def defs(tree):
    return [node for node in ast.walk(tree) if isinstance(node, ast.FunctionDef)]


def given_names(node):
    """The parameters and locals of a def."""
    names = [one.arg for one in node.args.args + node.args.kwonlyargs]
    for inner in ast.walk(node):
        if isinstance(inner, ast.Name) and isinstance(inner.ctx, ast.Store):
            names.append(inner.id)
    return names


class FilesTest(unittest.TestCase):
    def test_only_python_files_with_plain_names(self):
        for path in FOLDER.iterdir():
            if path.name != "__pycache__":
                self.assertRegex(path.name, r"^([a-z][a-z0-9_]*|__init__|__main__)\.py$")

    def test_signs_and_sizes(self):
        for path in files():
            text = path.read_bytes().decode("ascii")
            self.assertNotRegex(text, r"[^\n -~]")
            lines = text.split("\n")
            self.assertLessEqual(len(lines), 400, path.name)
            self.assertLessEqual(max(len(line) for line in lines), 120, path.name)
            self.assertIsNone(NOWHERE.search(text), path.name)

    def test_functions_have_at_most_forty_lines(self):
        for name, tree in trees():
            for node in defs(tree):
                self.assertLessEqual(node.end_lineno - node.lineno + 1, 40, (name, node.name))


class ImportsTest(unittest.TestCase):
    def test_names_are_drawn_from_the_very_file_that_defines_them(self):
        all_trees = dict(trees())
        for name, tree in all_trees.items():
            for row in drawn(tree):
                package, found, file = row.module.partition(".")
                self.assertEqual((package, row.level), (PACKAGE, 0), name)
                source = all_trees[file + ".py"]
                own = set(top_names(source)) - {one.name for other in drawn(source) for one in other.names}
                for alias in row.names:
                    self.assertIn(alias.name, own, (name, row.lineno))

    def test_no_two_files_draw_from_one_another(self):
        left = {name: {row.module.partition(".")[2] + ".py" for row in drawn(tree)} for name, tree in trees()}
        while left:
            ready = [name for name, needed in left.items() if not needed & set(left)]
            self.assertTrue(ready, left)
            for name in ready:
                del left[name]


class RowsTest(unittest.TestCase):
    def test_only_rows_and_expressions_of_the_language(self):
        for name, tree in trees():
            for node in ast.walk(tree):
                self.assertIsInstance(node, NODES, (name, getattr(node, "lineno", 0)))
            for row in tree.body:
                self.assertIsInstance(row, AT_THE_TOP, (name, row.lineno))
                if isinstance(row, ast.Expr):
                    self.assertIsInstance(row.value, ast.Constant, (name, row.lineno))
            names = top_names(tree)
            self.assertEqual(len(names), len(set(names)), name)

    def test_functions_and_classes_are_plain(self):
        for name, tree in trees():
            for node in defs(tree):
                self.assertEqual(node.decorator_list, [], name)
                self.assertEqual((node.args.vararg, node.args.kwarg, node.args.posonlyargs), (None, None, []))
            for node in ast.walk(tree):
                if isinstance(node, ast.ClassDef):
                    self.assertEqual((node.decorator_list, node.keywords), ([], []), name)
                    self.assertLessEqual(len(node.bases), 1)
                    for row in node.body[1:]:
                        self.assertIsInstance(row, ast.FunctionDef, (name, row.lineno))

    def test_powers_texts_and_likeness(self):
        for name, tree in trees():
            for node in ast.walk(tree):
                where = (name, getattr(node, "lineno", 0))
                if isinstance(node, ast.BinOp) and isinstance(node.op, ast.Pow):
                    self.assertIn(getattr(node.right, "value", None), range(65), where)
                if isinstance(node, ast.Constant) and isinstance(node.value, str):
                    self.assertNotIn("%", node.value, where)
                if isinstance(node, ast.Constant):
                    self.assertNotIsInstance(node.value, (float, complex), where)
                if isinstance(node, ast.Compare):
                    for sign, right in zip(node.ops, node.comparators):
                        if isinstance(sign, (ast.Is, ast.IsNot)):
                            self.assertIn(getattr(right, "value", 0), (None, True, False), where)
                if isinstance(node, ast.FormattedValue):
                    self.assertIsNone(node.format_spec, where)


class NamesTest(unittest.TestCase):
    def test_names_are_plain_and_pythons_own_keep_their_meaning(self):
        own = set(dir(builtins))
        for name, tree in trees():
            taken = {node.name for node in tree.body if isinstance(node, ast.ClassDef)}
            taken |= {alias.asname or alias.name for row in drawn(tree) for alias in row.names}
            for node in defs(tree):
                if node.name not in UNDERSCORED:
                    self.assertRegex(node.name, r"^[A-Za-z][A-Za-z0-9_]*$")
                for given in given_names(node):
                    self.assertRegex(given, r"^[A-Za-z][A-Za-z0-9_]*$", (name, node.name))
                    self.assertNotIn(given, own | taken | UNUSED, (name, node.name))

    def test_only_listed_names_of_pythons_own(self):
        own = set(dir(builtins))
        for name, tree in trees():
            bound = set(top_names(tree))
            for node in ast.walk(tree):
                if isinstance(node, ast.Name) and node.id in own and node.id not in bound:
                    self.assertIn(node.id, OWN_NAMES, (name, node.lineno))
                if isinstance(node, ast.Attribute):
                    self.assertNotIn(node.attr, UNUSED, (name, node.lineno))
                    self.assertTrue(not node.attr.startswith("_") or node.attr == "__init__", (name, node.lineno))

    def test_no_name_is_a_method_here_and_a_value_there(self):
        methods, values = set(), set()
        for name, tree in trees():
            for node in ast.walk(tree):
                if isinstance(node, ast.ClassDef):
                    found = [row.name for row in node.body if isinstance(row, ast.FunctionDef)]
                    self.assertEqual(len(found), len(set(found)), (name, node.name))
                    methods |= set(found)
                if isinstance(node, ast.Attribute) and isinstance(node.ctx, ast.Store):
                    values.add(node.attr)
        self.assertEqual(methods & values, set())

    def test_only_listed_and_own_methods_are_called(self):
        own = {row.name for name, tree in trees() for node in tree.body if isinstance(node, ast.ClassDef)
               for row in node.body if isinstance(row, ast.FunctionDef)}
        for name, tree in trees():
            called = {node.func for node in ast.walk(tree) if isinstance(node, ast.Call)}
            for node in ast.walk(tree):
                if isinstance(node, ast.Attribute) and node in called:
                    self.assertIn(node.attr, METHODS | own, (name, node.lineno))
                elif isinstance(node, ast.Attribute):
                    self.assertNotIn(node.attr, METHODS | own, (name, node.lineno))

    def test_sets_stand_where_they_may(self):
        for name, tree in trees():
            for node in ast.walk(tree):
                for child in ast.iter_child_nodes(node):
                    if isinstance(child, (ast.Set, ast.SetComp)) or (
                            isinstance(child, ast.Call) and getattr(child.func, "id", "") == "set"):
                        within = isinstance(node, ast.Call) and getattr(node.func, "id", "") in ("sorted", "len")
                        self.assertTrue(within or isinstance(node, (ast.Compare, ast.BinOp)), (name, child.lineno))

    def test_classes_are_called_or_stand_where_they_may(self):
        classes = {node.name for name, tree in trees() for node in tree.body if isinstance(node, ast.ClassDef)}
        for name, tree in trees():
            for node in ast.walk(tree):
                for child in ast.iter_child_nodes(node):
                    if isinstance(child, ast.Name) and child.id in classes:
                        self.assertTrue(self.may_stand(node, child), (name, child.lineno))

    def may_stand(self, node, child):
        if isinstance(node, ast.Call) and node.func is not child:
            return getattr(node.func, "id", "") == "isinstance" and node.args[0] is not child
        if isinstance(node, ast.Attribute):
            return node.attr == "__init__"
        return isinstance(node, (ast.Call, ast.ClassDef, ast.ExceptHandler, ast.Raise, ast.Tuple))


if __name__ == "__main__":
    unittest.main()
