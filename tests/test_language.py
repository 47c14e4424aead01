"""Rules of LANGUAGE.md that can be looked up in the text of the package: a help for the writer, not a proof."""

import ast
import builtins
import pathlib
import re
import unittest

PACKAGE = pathlib.Path(__file__).resolve().parent.parent / "farpanes"

BARRED_WORDS = (
    "type typing typing_extensions enum Enum IntEnum StrEnum Flag IntFlag Generic Protocol ABC ABCMeta namedtuple"
    " NamedTuple TypedDict TYPE_CHECKING abstractmethod"
).split()
BARRED_NAMES = (
    "register mro elements open input version_info with_traceback add_note format format_map attrgetter breakpoint"
    " builtins compile copyright credits delattr dir eval exec exit gc getattr globals hasattr help id importlib"
    " license locals methodcaller os quit setattr vars sys chr float"
).split()
BUILTINS = (
    "len range enumerate zip min max sum abs sorted reversed int str bool bytes list tuple dict set isinstance ord repr"
    " any all divmod iter next super property staticmethod classmethod NotImplemented Exception ValueError TypeError"
    " KeyError IndexError LookupError ZeroDivisionError ArithmeticError OverflowError RuntimeError NotImplementedError"
    " AttributeError StopIteration"
).split()
BUILTIN_METHODS = (
    "append clear copy count endswith extend find get index insert isalnum isalpha isdigit islower isspace isupper items"
    " join keys ljust lower lstrip partition pop remove replace reverse rfind rjust rpartition rsplit rstrip setdefault"
    " split splitlines startswith strip update upper values zfill bit_length removeprefix removesuffix"
).split()
DOUBLE = re.compile("__[a-z]+__")


def sources():
    """Each file of the package with its text and its tree."""
    for path in sorted(PACKAGE.rglob("*.py")):
        text = path.read_text(encoding="utf-8")
        yield path, text, ast.parse(text)


def names_in(tree):
    """All names that a tree binds or uses."""
    for node in ast.walk(tree):
        if isinstance(node, ast.Name):
            yield node.id
        elif isinstance(node, ast.Attribute):
            yield node.attr
        elif isinstance(node, ast.arg):
            yield node.arg
        elif isinstance(node, (ast.FunctionDef, ast.ClassDef)):
            yield node.name
        elif isinstance(node, (ast.MatchAs, ast.MatchStar)) and node.name:
            yield node.name


def names_bound_in(function):
    """All names that a function binds: parameters, targets, captured ones, caught errors."""
    for node in ast.walk(function):
        if isinstance(node, ast.arg):
            yield node.arg
        elif isinstance(node, ast.Name) and isinstance(node.ctx, ast.Store):
            yield node.id
        elif isinstance(node, (ast.MatchAs, ast.MatchStar, ast.ExceptHandler)) and node.name:
            yield node.name


class TestLanguage(unittest.TestCase):
    def test_there_is_only_source_in_plainly_named_files(self):
        for path in PACKAGE.rglob("*"):
            if path.name != "__pycache__" and path.suffix != ".pyc":
                self.assertRegex(path.name, "^[a-z0-9_]+[.]py$")

    def test_sizes_and_characters(self):
        for path, text, tree in sources():
            lines = text.split("\n")
            self.assertLessEqual(len(lines), 400, path)
            for at, line in enumerate(lines, start=1):
                self.assertLessEqual(len(line), 120, f"{path}:{at}")
                self.assertRegex(line, "^[ -~]*$", f"{path}:{at}")
            for node in ast.walk(tree):
                if isinstance(node, ast.FunctionDef):
                    self.assertLessEqual(node.end_lineno - node.lineno + 1, 40, f"{path}: {node.name}")

    def test_imports(self):
        for path, text, tree in sources():
            for node in ast.walk(tree):
                self.assertNotIsInstance(node, ast.Import, path)
                if isinstance(node, ast.ImportFrom):
                    self.assertEqual(node.level, 0, path)
                    self.assertRegex(node.module, "^farpanes[.][a-z0-9_]+$", path)
                    self.assertNotIn("*", [alias.name for alias in node.names], path)
                    self.assertIn(node, tree.body, path)

    def test_words_and_names(self):
        for path, text, tree in sources():
            for word in re.findall("[A-Za-z_0-9]+", text):
                self.assertNotIn(word, BARRED_WORDS, path)
            self.assertNotRegex(text, "dataclass|overload|contextmanager", path)
            for name in names_in(tree):
                self.assertNotIn(name, BARRED_NAMES, path)
                self.assertTrue(DOUBLE.fullmatch(name) or not name.startswith("_"), f"{path}: {name}")
                if hasattr(builtins, name) and not DOUBLE.fullmatch(name):
                    self.assertIn(name, BUILTINS, path)

    def test_texts_and_numbers(self):
        for path, text, tree in sources():
            for node in ast.walk(tree):
                if isinstance(node, ast.Constant):
                    self.assertNotIsInstance(node.value, (float, complex), path)
                    self.assertNotIn("%", node.value if isinstance(node.value, str) else "", path)
                self.assertNotIsInstance(node, (ast.Div, ast.Global, ast.AsyncFunctionDef, ast.Await), path)

    def test_no_name_is_a_method_here_and_an_attribute_there(self):
        methods, attributes = set(), set()
        for path, text, tree in sources():
            for node in ast.walk(tree):
                if isinstance(node, ast.ClassDef):
                    methods.update(part.name for part in node.body if isinstance(part, ast.FunctionDef))
                if isinstance(node, ast.Attribute) and isinstance(node.ctx, ast.Store):
                    attributes.add(node.attr)
        self.assertEqual(methods & attributes, set())

    def test_methods_are_own_ones_or_allowed(self):
        own = set()
        for path, text, tree in sources():
            for node in ast.walk(tree):
                if isinstance(node, ast.ClassDef):
                    own.update(part.name for part in node.body if isinstance(part, ast.FunctionDef))
        for path, text, tree in sources():
            for node in ast.walk(tree):
                if isinstance(node, ast.Call) and isinstance(node.func, ast.Attribute):
                    self.assertIn(node.func.attr, own | set(BUILTIN_METHODS), path)

    def test_attributes_that_are_read_are_assigned(self):
        known, read = set(BUILTIN_METHODS), {}
        for path, text, tree in sources():
            for node in ast.walk(tree):
                if isinstance(node, ast.FunctionDef):
                    known.add(node.name)
                elif isinstance(node, ast.Attribute) and isinstance(node.ctx, ast.Store):
                    known.add(node.attr)
                elif isinstance(node, ast.Attribute):
                    read[node.attr] = path
        self.assertEqual({name: path for name, path in read.items() if name not in known}, {})

    def test_names_at_module_level_are_bound_once_and_shadowed_nowhere(self):
        for path, text, tree in sources():
            bound, barred = [], set()
            for node in tree.body:
                if isinstance(node, ast.ImportFrom):
                    bound += [alias.asname or alias.name for alias in node.names]
                    barred.update(alias.asname or alias.name for alias in node.names)
                elif isinstance(node, (ast.FunctionDef, ast.ClassDef)):
                    bound.append(node.name)
                    barred.update([node.name] * isinstance(node, ast.ClassDef))
                elif isinstance(node, ast.Assign):
                    bound += [target.id for target in node.targets]
            self.assertEqual(len(bound), len(set(bound)), path)
            for function in ast.walk(tree):
                if isinstance(function, ast.FunctionDef):
                    for name in names_bound_in(function):
                        self.assertNotIn(name, barred, f"{path}: {function.name}")
                        self.assertFalse(hasattr(builtins, name), f"{path}: {function.name}: {name}")

    def test_no_two_files_import_from_each_other_and_all_imports_are_used(self):
        needs = {}
        for path, text, tree in sources():
            imports = [node for node in tree.body if isinstance(node, ast.ImportFrom)]
            needs[path.stem] = {node.module.split(".")[1] for node in imports}
            used = {node.id for node in ast.walk(tree) if isinstance(node, ast.Name)}
            for node in imports:
                for alias in node.names:
                    self.assertIn(alias.name, used, path)
        while needs:
            free = [name for name in needs if not needs[name]]
            self.assertTrue(free, needs)
            needs = {name: needs[name] - set(free) for name in needs if name not in free}

    def test_all_imports_name_the_file_that_defines_the_name(self):
        defined = {}
        for path, text, tree in sources():
            functions = [node.name for node in tree.body if isinstance(node, (ast.FunctionDef, ast.ClassDef))]
            values = [node.targets[0].id for node in tree.body if isinstance(node, ast.Assign)]
            defined[f"farpanes.{path.stem}"] = functions + values
        for path, text, tree in sources():
            for node in tree.body:
                if isinstance(node, ast.ImportFrom):
                    for alias in node.names:
                        self.assertIn(alias.name, defined[node.module], path)

    def test_messages_name_nothing_that_was_handed_in(self):
        # A message made of a thing handed in may itself fail: Python refuses to write out very long numbers.
        for path, text, tree in sources():
            for node in ast.walk(tree):
                if isinstance(node, ast.Raise) and isinstance(node.exc, ast.Call):
                    for part in node.exc.args:
                        self.assertIsInstance(part, ast.Constant, f"{path}:{node.lineno}")


if __name__ == "__main__":
    unittest.main()
