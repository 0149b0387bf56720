"""The rules of the language that can be read off the files of the package."""

import ast
import builtins
import io
import os
import re
import tokenize
import unittest

FOLDER = os.path.join(os.path.dirname(os.path.dirname(os.path.abspath(__file__))), "answersby")
PACKAGE = "answersby"

BUILTINS = set(
    "len range enumerate zip min max sum abs sorted reversed int str bool bytes list tuple dict set isinstance ord "
    "repr any all divmod iter next map Exception ValueError TypeError KeyError IndexError LookupError "
    "ZeroDivisionError ArithmeticError OverflowError RuntimeError NotImplementedError AttributeError "
    "NotImplemented property staticmethod classmethod super object".split()
)
VALUE_METHODS = set(
    "append clear copy count endswith extend find get index insert isalnum isalpha isdigit islower isspace isupper "
    "items join keys ljust lower lstrip partition pop remove replace reverse rfind rjust rpartition rsplit rstrip "
    "setdefault split splitlines startswith strip update upper values zfill bit_length title capitalize swapcase "
    "casefold center expandtabs removeprefix removesuffix rindex isascii isdecimal isnumeric istitle isidentifier "
    "isprintable".split()
)
DUNDERS = set(
    "__init__ __eq__ __repr__ __str__ __len__ __enter__ __exit__ __call__ __iter__ __lt__ __le__ __gt__ __ge__ __ne__ "
    "__add__ __sub__ __mul__ __floordiv__ __mod__ __pow__ __and__ __or__ __xor__ __lshift__ __rshift__ __neg__ "
    "__pos__ __invert__ __abs__ __bool__ __contains__ __getitem__ __setitem__".split()
)
BARRED_WORDS = set(
    "type typing typing_extensions enum Enum IntEnum StrEnum Flag IntFlag Generic Protocol ABC ABCMeta namedtuple "
    "NamedTuple TypedDict TYPE_CHECKING abstractmethod".split()
)
BARRED_NAMES = set(
    "register mro elements open input law version_info with_traceback add_note global async getattr setattr hasattr "
    "eval exec vars dir".split()
)
BARRED_NODES = (
    ast.Global, ast.AsyncFor, ast.AsyncFunctionDef, ast.AsyncWith, ast.Await, ast.Div, ast.Set,
    ast.GeneratorExp, ast.AnnAssign, ast.Import, ast.MatMult,
)
# What the interface lists: the file, and for each class the methods that stand in its body.
INTERFACE = {
    "names": {
        "kind_of": None, "takes_other": None, "may_decline": None, "outcomes_of": None, "is_outcome": None,
        "operands_of": None,
    },
    "books": {
        "Book": "full bare __getitem__ __setitem__ bars_hash ends_same ends_true set_flag twin __eq__ __iter__ "
        "listed __len__",
    },
    "bodies": {"Body": "__init__ nodes __eq__"},
    "orders": {"merged": None},
    "tables": {
        "Table": "__init__ add __getitem__ __setitem__ entries bases order heirs set_bases book set_book twin __eq__ "
        "__contains__ __iter__ listed __len__",
    },
    "scenes": {"Scene": "__init__ classes ways table over lookup walked"},
    "engine": {"first_state": None, "next_state": None},
    "plays": {"Play": "__init__ __iter__ listed __len__ end waits", "called": None},
    "machines": {
        "machine_of": None, "names_of": None, "looked_of": None,
        "Machine": "__init__ __iter__ listed __len__ __eq__ form play walk", "Walk": "__init__ __call__ at call end",
    },
    "alike": {"parting": None, "alike_rows": None},
    "papers": {
        "Paper": "__init__ __iter__ listed __len__ __contains__ __eq__ __invert__ __mul__", "paper_of": None, "gap": None,
    },
    "heirs": {"heir_scene": None, "spared": None, "witness": None, "witnesses": None, "free_methods": None},
    "steady": {"related": None, "questions": None, "steady_end": None},
    "joint": {"clash": None},
    "agreements": {"pair_of": None, "disagreement": None},
    "stocks": {"chosen": None, "failing": None},
    "choices": {"Choices": "__init__ __iter__ listed __len__ cost floor"},
    "edits": {
        "Draft": "__init__ __enter__ __exit__ make", "make_edits": None, "edited": None, "may_change": None, "changes": None,
        "exchanged_bases": None, "free_exchanges": None,
    },
    "newer": {
        "with_book": None, "book_changes": None, "idle_ways": None, "turning_books": None, "apart": None, "spread": None,
    },
    "notes": {"write_body": None, "read_body": None, "write_table": None, "read_table": None},
    "console": {"Console": "__init__ run table"},
}


def sources():
    """The dict of the names of the files, without .py, and their texts."""
    texts = {}
    for entry in sorted(os.listdir(FOLDER)):
        if entry != "__pycache__":
            with open(os.path.join(FOLDER, entry), encoding="utf-8") as file:
                texts[entry.removesuffix(".py")] = file.read()
    return texts


SOURCES = sources()
TREES = {name: ast.parse(text) for name, text in SOURCES.items()}


def nodes(kind):
    """The tuples (file, node) of all nodes of this kind."""
    return [(name, node) for name, tree in TREES.items() for node in ast.walk(tree) if isinstance(node, kind)]


def bound(tree):
    """The names that a file defines at module level, imports not included."""
    names = [node.name for node in tree.body if isinstance(node, (ast.FunctionDef, ast.ClassDef))]
    return names + [target.id for node in tree.body if isinstance(node, ast.Assign) for target in node.targets]


def imports(tree):
    """The tuples (file, name) of what a file imports from the package."""
    froms = [node for node in tree.body if isinstance(node, ast.ImportFrom) and node.module.startswith(PACKAGE + ".")]
    return [(node.module.removeprefix(PACKAGE + "."), alias.name) for node in froms for alias in node.names]


class FilesTest(unittest.TestCase):
    def test_names_of_the_files(self):
        for entry in os.listdir(FOLDER):
            if entry != "__pycache__":
                self.assertRegex(entry, r"^[a-z][a-z0-9_]*\.py$|^__init__\.py$|^__main__\.py$")
        self.assertIn("__init__", SOURCES)

    def test_sizes_and_characters(self):
        for name, text in SOURCES.items():
            self.assertRegex(text, r"\A[\n -~]*\n\Z", name)
            self.assertLess(text.count("\n"), 400, name)
            for line in text.split("\n"):
                self.assertLessEqual(len(line), 120, (name, line))

    def test_functions_are_short(self):
        for name, node in nodes(ast.FunctionDef):
            self.assertLessEqual(node.end_lineno - node.lineno + 1, 40, (name, node.name))

    def test_module_level(self):
        allowed = (ast.FunctionDef, ast.ClassDef, ast.Assign, ast.ImportFrom)
        for name, tree in TREES.items():
            if name != "__main__":
                for node in tree.body:
                    docstring = node is tree.body[0] and isinstance(node, ast.Expr)
                    self.assertTrue(docstring or isinstance(node, allowed), (name, node.lineno))
                names = bound(tree) + [alias for _, alias in imports(tree)]
                self.assertEqual(len(names), len(set(names)), name)

    def test_imports_name_the_file_that_defines_the_name(self):
        for name, node in nodes(ast.ImportFrom):
            self.assertEqual(node.level, 0, name)
            library = node.module in ("heapq", "math", "__future__")
            self.assertTrue(library or node.module.startswith(PACKAGE + "."), (name, node.module))
        for name, tree in TREES.items():
            for source, imported in imports(tree):
                self.assertIn(imported, bound(TREES[source]), name)

    def test_every_import_is_used(self):
        for name, tree in TREES.items():
            used = {node.id for node in ast.walk(tree) if isinstance(node, ast.Name)}
            for _, imported in imports(tree):
                self.assertIn(imported, used, name)

    def test_no_imports_in_a_ring(self):
        behind = {name: {source for source, _ in imports(tree)} for name, tree in TREES.items()}
        while behind:
            free = [name for name, needed in behind.items() if not needed & set(behind)]
            self.assertTrue(free, behind)
            for name in free:
                del behind[name]

    def test_the_interface_stands_in_its_files(self):
        for name, listed in INTERFACE.items():
            defined = {node.name: node for node in TREES[name].body if isinstance(node, (ast.FunctionDef, ast.ClassDef))}
            for word, methods in listed.items():
                self.assertIn(word, defined, name)
                if methods is not None:
                    own = [node.name for node in defined[word].body if isinstance(node, ast.FunctionDef)]
                    for method in methods.split():
                        self.assertIn(method, own, word)


class CodeTest(unittest.TestCase):
    def test_no_barred_statements_and_signs(self):
        self.assertEqual([(name, ast.dump(node)) for name, node in nodes(BARRED_NODES)], [])

    def test_names(self):
        for name, node in nodes(ast.Name):
            if isinstance(node.ctx, ast.Load):
                self.assertTrue(node.id not in dir(builtins) or node.id in BUILTINS, (name, node.lineno, node.id))
            else:
                self.assertNotIn(node.id, dir(builtins), (name, node.lineno))
        for name, node in nodes(ast.arg):
            self.assertNotIn(node.arg, dir(builtins), (name, node.lineno))
        for name, tree in TREES.items():
            taken = {imported for _, imported in imports(tree)}
            taken |= {node.name for node in tree.body if isinstance(node, ast.ClassDef)}
            for node in ast.walk(tree):
                if isinstance(node, ast.arg):
                    self.assertNotIn(node.arg, taken, (name, node.lineno))
                if isinstance(node, ast.Name) and isinstance(node.ctx, ast.Store):
                    self.assertNotIn(node.id, taken, (name, node.lineno))

    def test_words(self):
        for name, text in SOURCES.items():
            for token in tokenize.generate_tokens(io.StringIO(text).readline):
                docstring = token.string.startswith('"""')
                if token.type != tokenize.COMMENT and not docstring:
                    words = set(re.findall(r"\w+", token.string))
                    self.assertFalse(words & BARRED_WORDS, (name, token.line))
                if token.type == tokenize.NAME:
                    self.assertNotIn(token.string, BARRED_NAMES, (name, token.line))

    def test_strings_and_numbers(self):
        for name, node in nodes(ast.Constant):
            self.assertNotIsInstance(node.value, (float, complex), (name, node.lineno))
            if isinstance(node.value, str):
                self.assertNotIn("%", node.value, (name, node.lineno))
                self.assertNotRegex(node.value, r"^__.*__$", (name, node.lineno))

    def test_is_only_with_constants(self):
        for name, node in nodes(ast.Compare):
            for sign, side in zip(node.ops, node.comparators):
                if isinstance(sign, (ast.Is, ast.IsNot)):
                    self.assertIsInstance(side, ast.Constant, (name, node.lineno))

    def test_methods_that_are_called(self):
        own = {node.name for _, node in nodes(ast.FunctionDef)}
        for name, node in nodes(ast.Call):
            if isinstance(node.func, ast.Attribute):
                self.assertIn(node.func.attr, own | VALUE_METHODS, (name, node.lineno))

    def test_decorators_and_double_underscores(self):
        for name, node in nodes(ast.ClassDef):
            self.assertEqual(node.decorator_list, [], name)
        for name, node in nodes(ast.FunctionDef):
            for decorator in node.decorator_list:
                self.assertRegex(ast.unparse(decorator), r"^(property|staticmethod|classmethod|\w+\.setter)$", name)
            if node.name.startswith("__"):
                self.assertIn(node.name, DUNDERS, name)

    def test_sets_are_not_kept(self):
        for name, node in nodes((ast.Assign, ast.Return)):
            value = node.value
            is_set = isinstance(value, ast.SetComp)
            is_set = is_set or isinstance(value, ast.Call) and getattr(value.func, "id", None) in ("set", "frozenset")
            self.assertFalse(is_set, (name, node.lineno))

    def test_no_name_is_a_method_and_an_attribute(self):
        methods = {node.name for _, tree in nodes(ast.ClassDef) for node in tree.body if hasattr(node, "name")}
        properties = {"bars_hash", "ends_same", "ends_true", "cost"}
        for name, node in nodes(ast.Attribute):
            if isinstance(node.ctx, ast.Store):
                self.assertNotIn(node.attr, methods - properties, (name, node.lineno))
