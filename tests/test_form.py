"""The form of the package's files, as far as it can be told by looking at them."""

import ast
import builtins
import os
import tokenize
import unittest

import doubtbooks

PACKAGE = os.path.dirname(os.path.abspath(doubtbooks.__file__))
ALLOWED_BUILTINS = set(
    "len range enumerate zip min max sum abs sorted reversed int str bool bytes list tuple dict set frozenset isinstance "
    "ord repr any all divmod Exception ValueError TypeError KeyError IndexError LookupError".split())
BARRED_NAMES = set(
    "mro elements open input law version_info with_traceback add_note register attrgetter breakpoint builtins compile "
    "copyright credits delattr dir eval exec exit gc getattr globals hasattr help id importlib license locals methodcaller "
    "os quit setattr super type vars sys".split())
BARRED_WORDS = set(
    "type typing typing_extensions enum Enum IntEnum StrEnum Flag IntFlag Generic Protocol ABC ABCMeta namedtuple "
    "NamedTuple TypedDict TYPE_CHECKING abstractmethod dataclass overload contextmanager".split())
ALLOWED_METHODS = set(
    "append clear copy count endswith extend find get index insert isalnum isalpha isdigit islower isspace isupper items join "
    "keys ljust lower lstrip partition pop remove replace reverse rfind rjust rpartition rsplit rstrip setdefault split "
    "splitlines startswith strip update upper values zfill bit_length".split())
OWN_ERRORS = {"DoubtError", "Unfit", "BadProtocol", "BadText", "BadLog", "Refused", "TooMany"}
BARRED_NODES = (ast.Import, ast.AsyncFunctionDef, ast.AsyncFor, ast.AsyncWith, ast.Await, ast.Div, ast.TryStar)


def names_of_files():
    return sorted(name for name in os.listdir(PACKAGE) if name != "__pycache__")


def text_of(name):
    with open(os.path.join(PACKAGE, name), encoding="utf-8") as lines:
        return lines.read()


def files():
    """Triples of each file's name, its text, and its tree."""
    return [(name, text_of(name), ast.parse(text_of(name))) for name in names_of_files()]


def bound_names(tree):
    """All names that a file gives to something: variables, functions, classes, parameters."""
    names = set()
    for node in ast.walk(tree):
        if isinstance(node, ast.Name) and isinstance(node.ctx, ast.Store):
            names.add(node.id)
        elif isinstance(node, (ast.FunctionDef, ast.ClassDef)):
            names.add(node.name)
        elif isinstance(node, ast.arg):
            names.add(node.arg)
    return names


def imports_of(tree):
    return [node for node in ast.walk(tree) if isinstance(node, ast.ImportFrom)]


class FormTest(unittest.TestCase):

    def test_nothing_else_is_in_the_package(self):
        for name in names_of_files():
            self.assertRegex(name, r"^[a-z_0-9]+\.py$")

    def test_characters_and_sizes(self):
        for name, text, tree in files():
            self.assertRegex(text, r"\A[ -~\n]*\Z", name)
            self.assertLess(text.count("\n"), 400, name)
            self.assertLessEqual(max(len(line) for line in text.split("\n")), 120, name)
            for node in ast.walk(tree):
                if isinstance(node, ast.FunctionDef):
                    self.assertLessEqual(node.end_lineno - node.lineno + 1, 40, node.name)

    def test_imports_name_the_file_that_defines(self):
        for name, text, tree in files():
            for node in imports_of(tree):
                self.assertIn(node, tree.body, name)
                self.assertRegex(node.module, r"^doubtbooks\.[a-z]+$", name)
                defined = bound_names(ast.parse(text_of(node.module.split(".")[1] + ".py")))
                for alias in node.names:
                    self.assertIsNone(alias.asname, name)
                    self.assertIn(alias.name, defined, name)

    def test_no_two_files_import_from_each_other(self):
        needs = {name: {node.module.split(".")[1] + ".py" for node in imports_of(tree)} for name, text, tree in files()}
        while needs:
            ready = [name for name in needs if not needs[name] & set(needs)]
            self.assertTrue(ready, needs)
            needs = {name: needs[name] for name in needs if name not in ready}

    def test_module_level(self):
        for name, text, tree in files():
            self.assertIsNotNone(ast.get_docstring(tree), name)
            for node in tree.body[1:]:
                self.assertIsInstance(node, (ast.ImportFrom, ast.FunctionDef, ast.ClassDef, ast.Assign), name)
                if isinstance(node, ast.Assign):
                    self.assertEqual([target.__class__ for target in node.targets], [ast.Name], name)
                    for part in ast.walk(node.value):
                        self.assertNotIsInstance(part, (ast.Call, ast.ListComp, ast.DictComp, ast.Set, ast.Lambda), name)

    def test_tables_name_functions_of_their_file(self):
        for name, text, tree in files():
            above = set()
            for node in tree.body:
                if isinstance(node, ast.FunctionDef):
                    above.add(node.name)
                elif isinstance(node, ast.Assign):
                    named = {part.id for part in ast.walk(node.value) if isinstance(part, ast.Name)}
                    self.assertLessEqual(named, above, name)
                    for part in ast.walk(node.value):
                        if isinstance(part, (ast.Dict, ast.List, ast.Tuple)) and part is not node.value:
                            self.assertIsInstance(part, ast.Tuple, name)

    def test_classes(self):
        attributes = set()
        for name, text, tree in files():
            for node in [node for node in tree.body if isinstance(node, ast.ClassDef)]:
                methods = [part for part in node.body if not isinstance(part, ast.Expr)]
                own = {part.name for part in methods if isinstance(part, ast.FunctionDef)}
                self.assertEqual(len(own), len(methods), node.name)
                self.assertEqual({method for method in own if method.startswith("_")} - {"__init__"}, set())
                stored = {part.attr for part in ast.walk(node) if isinstance(part, ast.Attribute)
                          and isinstance(part.ctx, ast.Store)}
                self.assertEqual(own & stored, set(), node.name)
                self.assertEqual((own | stored) & ALLOWED_METHODS, set(), node.name)
                attributes |= own | stored
        # What is read of an object is something of its class, or a method of a value.
        for name, text, tree in files():
            read = {node.attr for node in ast.walk(tree) if isinstance(node, ast.Attribute)}
            self.assertLessEqual(read, attributes | ALLOWED_METHODS | {"add"}, name)

    def test_errors_that_are_raised_and_caught(self):
        for name, text, tree in files():
            for node in ast.walk(tree):
                if isinstance(node, ast.ExceptHandler):
                    self.assertIn(node.type.id, OWN_ERRORS, name)
                    self.assertIsNone(node.name, name)
                if isinstance(node, ast.Raise):
                    self.assertIn(node.exc.func.id, OWN_ERRORS, name)
                    self.assertEqual(node.exc.keywords, [], name)

    def test_nothing_of_a_table_is_called_at_once(self):
        for name, text, tree in files():
            for node in ast.walk(tree):
                if isinstance(node, ast.Call):
                    self.assertIsInstance(node.func, (ast.Name, ast.Attribute), name)

    def test_names(self):
        known = set(dir(builtins))
        for name, text, tree in files():
            bound = bound_names(tree)
            imported = {alias.name for node in imports_of(tree) for alias in node.names}
            self.assertEqual(bound & (known | BARRED_NAMES | imported), set(), name)
            used = {node.id for node in ast.walk(tree) if isinstance(node, ast.Name)}
            self.assertEqual((used & known) - ALLOWED_BUILTINS, set(), name)

    def test_words(self):
        for name in names_of_files():
            with open(os.path.join(PACKAGE, name), "rb") as source:
                words = {token.string for token in tokenize.tokenize(source.readline) if token.type == tokenize.NAME}
            self.assertEqual(words & BARRED_WORDS, set(), name)

    def test_what_is_not_used(self):
        for name, text, tree in files():
            for node in ast.walk(tree):
                self.assertNotIsInstance(node, BARRED_NODES, name)
                self.assertFalse(isinstance(node, ast.Constant) and isinstance(node.value, (float, complex)), name)


if __name__ == "__main__":
    unittest.main()
