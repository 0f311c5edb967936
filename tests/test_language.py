"""The interface's files, and those rules of the Python subset that can be seen in the code."""

import ast
import builtins
import importlib
import pathlib
import re
import unittest

FOLDER = pathlib.Path(__file__).resolve().parent.parent / "letterhall"
FILES = sorted(path for path in FOLDER.iterdir() if path.name != "__pycache__")

INTERFACE = {
    "errors": ("NoCode", "BadLetter", "BadPlan", "BadLine", "NoOne", "NoHouse", "NoLink", "NoLetter", "NoCopy", "NoPiece",
               "NoHold", "NoDesk", "NoDeed", "NoWay", "Shut", "NoRight"),
    "codes": ("coded", "written", "best_way"),
    "letters": ("is_body", "is_letter", "letter_rows", "letter_text", "read_letter"),
    "plans": ("is_address", "is_plan"),
    "routes": ("next_house", "reached"),
    "rules": ("is_test", "is_rules", "words_of", "holds", "judged"),
    "queries": ("is_query",),
    "hall": ("Hall",),
    "replays": ("replay", "as_of", "shows_log"),
    "papers": ("fate_paper", "shows_fate", "hall_paper", "shows_hall", "way_paper", "shows_way", "desk_paper", "shows_desk"),
    "texts": ("plan_text", "plan_in"),
    "sheet": ("run",),
}
# What an attribute may not be called, beside the names of methods.
BARRED_ATTRIBUTES = set("""items keys values pop update append clear extend insert remove reverse setdefault sort args encode decode hex
    fromhex format format_map mro""".split())
VALUES = {"codes": ("WAYS", "MOST_ROW")}

ALLOWED_BUILTINS = set("""len range enumerate zip min max sum abs sorted reversed int str bool bytes list tuple dict set
    isinstance ord repr any all divmod iter next Exception ValueError TypeError KeyError IndexError LookupError
    ZeroDivisionError ArithmeticError OverflowError RuntimeError NotImplementedError AttributeError StopIteration
    NotImplemented super property staticmethod classmethod""".split())
ALLOWED_METHODS = set("""append clear copy count endswith extend find get index insert isalnum isalpha isdigit islower
    isspace isupper items join keys ljust lower lstrip partition pop remove replace reverse rfind rjust rpartition rsplit
    rstrip setdefault split splitlines startswith strip update upper values zfill bit_length add discard __init__""".split())
BARRED_WORDS = """type typing typing_extensions enum Enum IntEnum StrEnum Flag IntFlag Generic Protocol ABC ABCMeta
    namedtuple NamedTuple TypedDict TYPE_CHECKING abstractmethod""".split()
BARRED_NAMES = set("""register mro elements open input law version_info with_traceback add_note attrgetter breakpoint
    compile copyright credits delattr dir eval exec exit gc getattr globals hasattr help id importlib license locals
    methodcaller os quit setattr vars sys chr""".split())
ALLOWED_DUNDERS = {"__init__", "__eq__", "__len__", "__repr__", "__str__"}
# A class with __eq__ is to come, and beside it all, any and their like take lists alone.
BARRED_NODES = (ast.Global, ast.AsyncFunctionDef, ast.Await, ast.AsyncFor, ast.AsyncWith, ast.Import, ast.Div, ast.MatMult,
                ast.GeneratorExp)


def calls_of(tree):
    return [node for node in ast.walk(tree) if isinstance(node, ast.Call)]


def bound_names(tree):
    """All names of functions, classes, parameters and variables."""
    told = []
    for node in ast.walk(tree):
        if isinstance(node, (ast.FunctionDef, ast.ClassDef)):
            told.append(node.name)
        elif isinstance(node, ast.arg):
            told.append(node.arg)
        elif isinstance(node, ast.Name) and isinstance(node.ctx, ast.Store):
            told.append(node.id)
    return told


class Interface(unittest.TestCase):

    def test_each_name_is_defined_in_its_file(self):
        for file, names in INTERFACE.items():
            tree = ast.parse((FOLDER / (file + ".py")).read_text())
            defined = [node.name for node in tree.body if isinstance(node, (ast.FunctionDef, ast.ClassDef))]
            for name in names:
                self.assertEqual(defined.count(name), 1, (file, name))

    def test_each_value_stands_in_its_file(self):
        for file, names in VALUES.items():
            for name in names:
                self.assertTrue(hasattr(importlib.import_module("letterhall." + file), name))


class Language(unittest.TestCase):

    def each(self):
        for path in FILES:
            text = path.read_text()
            yield path, text, ast.parse(text, filename=path.name)

    def test_files_and_signs(self):
        for path, text, tree in self.each():
            self.assertRegex(path.name, r"\A[a-z0-9_]+\.py\Z")
            self.assertTrue(all(sign == "\n" or " " <= sign <= "~" for sign in text))
            self.assertNotIn("\t", text)

    def test_sizes(self):
        for path, text, tree in self.each():
            rows = text.split("\n")
            self.assertLessEqual(len(rows), 399)
            self.assertLessEqual(max(len(row) for row in rows), 120)
            for node in ast.walk(tree):
                if isinstance(node, ast.FunctionDef):
                    self.assertLessEqual(node.end_lineno - node.lineno + 1, 40, node.name)

    def test_imports(self):
        for path, text, tree in self.each():
            for node in ast.walk(tree):
                if isinstance(node, ast.ImportFrom):
                    self.assertIn(node, tree.body)
                    self.assertRegex(node.module, r"\Aletterhall\.[a-z]+\Z")
                    self.assertEqual(node.level, 0)
                    source = ast.parse((FOLDER.parent / (node.module.replace(".", "/") + ".py")).read_text())
                    for alias in node.names:
                        self.assertIsNone(alias.asname)
                        self.assertIn(alias.name, bound_names(source))

    def test_module_level(self):
        for path, text, tree in self.each():
            for node in tree.body:
                docstring = isinstance(node, ast.Expr) and isinstance(node.value, ast.Constant)
                self.assertTrue(docstring or isinstance(node, (ast.ImportFrom, ast.FunctionDef, ast.ClassDef, ast.Assign)))

    def test_tables_hold_functions_of_their_own_file_and_are_only_read(self):
        for path, text, tree in self.each():
            above, tables = set(), set()
            for node in tree.body:
                if isinstance(node, ast.FunctionDef):
                    above.add(node.name)
                if isinstance(node, ast.Assign):
                    self.assertTrue({inner.id for inner in ast.walk(node.value) if isinstance(inner, ast.Name)} <= above, path.name)
                    self.assertFalse([inner for inner in ast.walk(node.value) if isinstance(inner, (ast.List, ast.Dict)) and inner is not node.value], path.name)
                    if isinstance(node.value, (ast.List, ast.Dict)):
                        tables.add(node.targets[0].id)
            for call in calls_of(tree):
                handed = [*call.args, *[keyword.value for keyword in call.keywords]]
                self.assertFalse([one for one in handed if isinstance(one, ast.Name) and one.id in tables], path.name)
                self.assertNotIsInstance(call.func, ast.Subscript, path.name)

    def test_each_function_has_a_docstring_or_a_name_of_pythons(self):
        for path, text, tree in self.each():
            self.assertIsNotNone(ast.get_docstring(tree), path.name)
            for node in ast.walk(tree):
                if isinstance(node, (ast.FunctionDef, ast.ClassDef)) and not node.name.startswith("__"):
                    self.assertIsNotNone(ast.get_docstring(node), (path.name, node.name))

    def test_statements_and_values(self):
        for path, text, tree in self.each():
            for node in ast.walk(tree):
                self.assertNotIsInstance(node, BARRED_NODES)
                if isinstance(node, ast.Constant):
                    self.assertNotIsInstance(node.value, float)
                    if isinstance(node.value, str):
                        self.assertNotIn("%", node.value)
                if isinstance(node, ast.Compare) and any(isinstance(sign, (ast.Is, ast.IsNot)) for sign in node.ops):
                    self.assertIsInstance(node.comparators[0], ast.Constant)
                if isinstance(node, ast.ExceptHandler):
                    self.assertIsNotNone(node.type)

    def test_names(self):
        for path, text, tree in self.each():
            for name in bound_names(tree):
                self.assertTrue(name in ALLOWED_DUNDERS or re.fullmatch(r"[A-Za-z][A-Za-z0-9_]*", name), name)
                self.assertNotIn(name, vars(builtins), path.name)
                self.assertNotIn(name, BARRED_NAMES)
            for word in BARRED_WORDS:
                self.assertIsNone(re.search(r"\b" + word + r"\b", text), word)

    def test_builtins(self):
        for path, text, tree in self.each():
            for node in ast.walk(tree):
                if isinstance(node, ast.Name) and node.id in vars(builtins):
                    self.assertIn(node.id, ALLOWED_BUILTINS)

    def test_methods(self):
        own = set()
        for path, text, tree in self.each():
            own |= {node.name for node in ast.walk(tree) if isinstance(node, ast.FunctionDef)}
        for path, text, tree in self.each():
            for call in calls_of(tree):
                if isinstance(call.func, ast.Attribute):
                    self.assertIn(call.func.attr, ALLOWED_METHODS | own)

    def test_no_name_is_a_method_and_an_attribute(self):
        methods = set()
        attributes = set()
        for path, text, tree in self.each():
            for node in ast.walk(tree):
                if isinstance(node, ast.ClassDef):
                    methods |= {inner.name for inner in node.body if isinstance(inner, ast.FunctionDef)}
                if isinstance(node, ast.Attribute) and isinstance(node.ctx, ast.Store):
                    attributes.add(node.attr)
        self.assertEqual(methods & attributes, set())
        self.assertEqual(attributes & BARRED_ATTRIBUTES, set())

    def test_attributes_are_assigned_through_local_names_and_read_where_one_is_assigned(self):
        assigned, read = set(), set()
        for path, text, tree in self.each():
            called = {id(call.func) for call in calls_of(tree)}
            for node in ast.walk(tree):
                if isinstance(node, ast.Attribute) and isinstance(node.ctx, ast.Store):
                    self.assertIsInstance(node.value, ast.Name, path.name)
                    assigned.add(node.attr)
                elif isinstance(node, ast.Attribute) and id(node) not in called:
                    read.add(node.attr)
        self.assertEqual(read - assigned, set())

    def test_no_variable_has_the_name_of_a_class_or_an_import(self):
        for path, text, tree in self.each():
            taken = {node.name for node in tree.body if isinstance(node, ast.ClassDef)}
            taken |= {alias.name for node in tree.body if isinstance(node, ast.ImportFrom) for alias in node.names}
            classes = [node.name for node in tree.body if isinstance(node, ast.ClassDef)]
            for name in bound_names(tree):
                self.assertTrue(name not in taken or name in classes, (path.name, name))

    def test_no_ring_of_imports(self):
        behind = {}
        for path, text, tree in self.each():
            behind[path.stem] = {node.module.split(".")[1] for node in tree.body if isinstance(node, ast.ImportFrom)}
        done = set()
        while set(behind) - done:
            ready = {name for name in behind if name not in done and behind[name] <= done}
            self.assertTrue(ready, set(behind) - done)
            done |= ready

    def test_what_beside_a_class_that_is_compared_may_not_stand(self):
        for path, text, tree in self.each():
            for node in ast.walk(tree):
                if isinstance(node, ast.Call) and isinstance(node.func, ast.Attribute):
                    self.assertNotEqual(node.func.attr, "sort")
                if isinstance(node, ast.Try):
                    for handler in node.handlers:
                        for kind in handler.type.elts if isinstance(handler.type, ast.Tuple) else [handler.type]:
                            self.assertIn(kind.id, INTERFACE["errors"])
                if isinstance(node, ast.BinOp) and isinstance(node.op, ast.Pow):
                    self.assertIsInstance(node.right, ast.Constant)
                if isinstance(node, (ast.Set, ast.SetComp, ast.Yield, ast.YieldFrom, ast.NamedExpr, ast.Match)):
                    self.fail((path.name, node.lineno))


if __name__ == "__main__":
    unittest.main()
