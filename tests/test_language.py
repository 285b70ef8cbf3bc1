"""The rules of the language of the program, as far as the files themselves show whether they are kept."""

import ast
import builtins
import copy
import os
import re
import unittest

FOLDER = os.path.join(os.path.dirname(os.path.dirname(os.path.abspath(__file__))), "eachsome")

INTERFACE = {
    "errors": ("GameError", "Unfit", "BadText", "Taken", "TooMany", "TooManyEdits", "NothingToUndo",
               "NothingToRedo", "NoVersion", "BadLog"),
    "sentences": ("sentence_error", "clause_of", "owner_of", "less"),
    "sentencetexts": ("sentence_text", "read_sentence"),
    "rowtexts": ("sentence_rows", "read_rows"),
    "plays": ("play_error", "state_of", "result"),
    "meaning": ("winner", "good_moves", "trees"),
    "rows": ("dropped", "clashes", "met"),
    "papers": ("paper_error", "rows_of", "trimmed", "clauses_used"),
    "papertexts": ("paper_text", "read_paper"),
    "replies": ("why", "reply", "followed"),
    "tables": ("table_of", "table_reply"),
    "search": ("find", "decided", "core"),
    "lessening": ("step_error", "done_step", "steps_error", "done_steps", "lessened"),
    "carrying": ("carried", "answers_carried"),
    "squeezing": ("squeezed", "unsqueezed", "answers_unsqueezed"),
    "answers": ("answers_error", "answers_reply"),
    "webs": ("straight", "led"),
    "twos": ("two_fault", "two_solved"),
    "horns": ("yes_letters", "once_no", "horn_solved"),
    "engines": ("engine_of", "solved", "move_of"),
    "formulas": ("formula_error", "free_names", "called"),
    "formulatexts": ("formula_text", "read_formula"),
    "truths": ("holds", "parting_world"),
    "prenexes": ("prenex", "lowered"),
    "compiling": ("compiled", "helper_play", "formula_paper", "formula_solved", "formula_reply", "formula_followed"),
    "turngames": ("game_error", "each_choices", "some_choices", "moved", "can_force"),
    "unrolling": ("unrolled", "game_paper", "game_move"),
    "desks": ("Desk", "desk_behind"),
    "shells": ("Shell",),
}

CALLED = set(
    "len range enumerate zip min max sum abs sorted reversed int str bool list tuple dict set isinstance ord repr "
    "any all divmod ValueError super next iter property".split()
)
KEYWORDS = {"sorted": {"key", "reverse"}, "min": {"key", "default"}, "max": {"key", "default"},
            "sum": {"start"}, "enumerate": {"start"}, "zip": {"strict"}}
METHODS = set(
    "append clear copy count endswith extend find get index insert isalnum isalpha isdigit islower isspace isupper "
    "items join keys ljust lower lstrip partition pop remove replace reverse rfind rjust rpartition rsplit rstrip "
    "setdefault split splitlines startswith strip update upper values zfill bit_length add discard isascii isdecimal "
    "removeprefix removesuffix rindex sort".split()
)
BARRED = set(
    "register mro elements open input law version_info with_traceback add_note attrgetter breakpoint builtins compile "
    "copyright credits delattr dir eval exec exit gc globals help id importlib license locals methodcaller os quit "
    "vars sys".split()
)
WORDS = re.compile(
    r"\b(type|typing|typing_extensions|enum|Enum|IntEnum|StrEnum|Flag|IntFlag|Generic|Protocol|ABC|ABCMeta|namedtuple|"
    r"NamedTuple|TypedDict|TYPE_CHECKING|abstractmethod)\b|dataclass|overload|contextmanager|_wall|_WallAttr"
)
STATEMENTS = (
    ast.Assign, ast.AugAssign, ast.AnnAssign, ast.If, ast.While, ast.For, ast.Return, ast.Break, ast.Continue,
    ast.Pass, ast.Raise, ast.Assert, ast.Delete, ast.Nonlocal, ast.With, ast.Expr, ast.Try, ast.FunctionDef,
    ast.ClassDef, ast.ImportFrom,
)
SPECIAL = {"__init__", "__eq__", "__len__", "__repr__", "__str__"}


def package_files():
    found = []
    for folder, _, names in os.walk(FOLDER):
        if not folder.endswith("__pycache__"):
            found.extend([os.path.join(folder, name) for name in names])
    return sorted(found)


def read(path):
    with open(path, encoding="utf-8") as file:
        return file.read()


def module_of(path):
    return os.path.relpath(path, FOLDER).removesuffix(".py")


TEXTS = {module_of(path): read(path) for path in package_files()}
TREES = {name: ast.parse(text) for name, text in TEXTS.items()}


def bound_at_top(tree):
    """All names that stand at module level, those of imports included, each as often as it is bound."""
    found = []
    for node in tree.body:
        if isinstance(node, (ast.FunctionDef, ast.ClassDef)):
            found.append(node.name)
        elif isinstance(node, ast.Assign):
            found.extend([target.id for target in node.targets])
        elif isinstance(node, ast.ImportFrom):
            found.extend([alias.name for alias in node.names])
    return found


def defined_in(tree):
    imported = [alias.name for node in tree.body if isinstance(node, ast.ImportFrom) for alias in node.names]
    return set(bound_at_top(tree)) - set(imported)


def bound_inside(function):
    """Parameters and all names that something is assigned to in a function."""
    found = {argument.arg for argument in ast.walk(function) if isinstance(argument, ast.arg)}
    for node in ast.walk(function):
        if isinstance(node, ast.Name) and not isinstance(node.ctx, ast.Load):
            found.add(node.id)
        elif isinstance(node, ast.ExceptHandler) and node.name:
            found.add(node.name)
        elif isinstance(node, ast.FunctionDef) and node is not function:
            found.add(node.name)
    return found


def without_functions(value, names):
    """A copy of a value at module level, with the names themselves where a dict has functions of these names."""
    value = copy.deepcopy(value)
    if isinstance(value, ast.Dict):
        for place, told in enumerate(value.values):
            if isinstance(told, ast.Name) and told.id in names:
                value.values[place] = ast.Constant(told.id)
    return value


def properties():
    """The names of all properties, and the nodes that tell them."""
    return {node.name: node for tree in TREES.values() for node in ast.walk(tree)
            if isinstance(node, ast.FunctionDef) and node.decorator_list}


class FilesTest(unittest.TestCase):
    def test_files(self):
        self.assertIn("__init__", TEXTS)
        self.assertLessEqual(len(TEXTS), 100)
        for path in package_files():
            self.assertRegex(os.path.relpath(path, FOLDER), r"\A([a-z][a-z0-9_]*|__init__|__main__)\.py\Z")

    def test_signs_and_sizes(self):
        for name, text in TEXTS.items():
            with self.subTest(name=name):
                self.assertEqual([sign for sign in text if sign != "\n" and not " " <= sign <= "~"], [])
                self.assertLessEqual(len(text.splitlines()), 399)
                self.assertLessEqual(max(map(len, text.splitlines())), 120)

    def test_functions_are_short(self):
        for name, tree in TREES.items():
            for node in ast.walk(tree):
                if isinstance(node, ast.FunctionDef):
                    self.assertLessEqual(node.end_lineno - node.lineno + 1, 40, (name, node.name))
                    told = [ast.unparse(decorator) for decorator in node.decorator_list]
                    self.assertIn(told, ([], ["property"]), (name, node.name))

    def test_barred_words(self):
        for name, tree in TREES.items():
            for node in ast.walk(tree):
                told = [getattr(node, field, None) for field in ("id", "arg", "attr", "name", "value")]
                for word in [word for word in told if isinstance(word, str)]:
                    self.assertIsNone(WORDS.search(word), (name, word))

    def test_interface(self):
        for name, wanted in INTERFACE.items():
            found = [node.name for node in TREES[name].body if isinstance(node, (ast.FunctionDef, ast.ClassDef))]
            self.assertLessEqual(set(wanted), set(found), name)


class ImportsTest(unittest.TestCase):
    def test_imports(self):
        for name, tree in TREES.items():
            for node in ast.walk(tree):
                self.assertNotIsInstance(node, ast.Import)
                if isinstance(node, ast.ImportFrom):
                    self.assertIn(node, tree.body)
                    self.assertEqual((node.level, node.module.split(".")[0]), (0, "eachsome"), name)
                    source = node.module.removeprefix("eachsome.")
                    for alias in node.names:
                        self.assertIsNone(alias.asname)
                        self.assertIn(alias.name, defined_in(TREES[source]), (name, source))

    def test_imports_are_used(self):
        for name, tree in TREES.items():
            used = {node.id for node in ast.walk(tree) if isinstance(node, ast.Name)}
            for node in tree.body:
                if isinstance(node, ast.ImportFrom):
                    self.assertEqual([alias.name for alias in node.names if alias.name not in used], [], name)

    def test_no_circle(self):
        ahead = {name: {node.module.removeprefix("eachsome.") for node in tree.body
                        if isinstance(node, ast.ImportFrom)} for name, tree in TREES.items()}
        while ahead:
            free = [name for name, needed in ahead.items() if not needed & set(ahead)]
            self.assertNotEqual(free, [])
            ahead = {name: needed for name, needed in ahead.items() if name not in free}


class StatementsTest(unittest.TestCase):
    def test_module_level(self):
        for name, tree in TREES.items():
            kinds = (ast.ImportFrom, ast.FunctionDef, ast.ClassDef, ast.Assign)
            for place, node in enumerate(tree.body):
                docstring = place == 0 and isinstance(node, ast.Expr) and isinstance(node.value.value, str)
                self.assertTrue(docstring or isinstance(node, kinds), (name, node.lineno))
                if isinstance(node, ast.Assign):
                    self.assertEqual(len(node.targets), 1)
                    ahead = {other.name for other in tree.body[:place] if isinstance(other, ast.FunctionDef)}
                    ast.literal_eval(without_functions(node.value, ahead))
            self.assertEqual(len(bound_at_top(tree)), len(set(bound_at_top(tree))), name)

    def test_kinds_of_statements(self):
        for name, tree in TREES.items():
            for node in ast.walk(tree):
                if isinstance(node, ast.stmt):
                    self.assertIsInstance(node, STATEMENTS, (name, node.lineno))
                if isinstance(node, ast.Expr):
                    self.assertIsInstance(node.value, (ast.Call, ast.Constant), (name, node.lineno))
                if isinstance(node, ast.Raise):
                    self.assertIsInstance(node.exc, ast.Call, (name, node.lineno))
                if isinstance(node, ast.ExceptHandler):
                    self.assertIsInstance(node.type, ast.Name, (name, node.lineno))

    def test_values(self):
        for name, tree in TREES.items():
            for node in ast.walk(tree):
                self.assertNotIsInstance(node, (ast.Div, ast.MatMult, ast.Await, ast.Pow, ast.Lambda), name)
                if isinstance(node, ast.Constant):
                    self.assertIn(type(node.value), (int, str, bool, type(None)), (name, node.lineno))
                    if isinstance(node.value, str):
                        self.assertNotIn("%", node.value, (name, node.lineno))

    def test_is(self):
        for name, tree in TREES.items():
            for node in ast.walk(tree):
                if isinstance(node, ast.Compare) and isinstance(node.ops[0], (ast.Is, ast.IsNot)):
                    self.assertIsInstance(node.comparators[0], ast.Constant, (name, node.lineno))

    def test_sets_are_not_iterated(self):
        for name, tree in TREES.items():
            for node in ast.walk(tree):
                if isinstance(node, (ast.For, ast.comprehension)):
                    self.assertNotIsInstance(node.iter, (ast.Set, ast.SetComp), name)
                    if isinstance(node.iter, ast.Call) and isinstance(node.iter.func, ast.Name):
                        self.assertNotEqual(node.iter.func.id, "set", name)


class NamesTest(unittest.TestCase):
    def test_names(self):
        for name, tree in TREES.items():
            for node in ast.walk(tree):
                told = [getattr(node, field, None) for field in ("id", "arg", "attr", "name")]
                for word in [word for word in told if isinstance(word, str)]:
                    self.assertRegex(word, r"\A(_|_?[A-Za-z][A-Za-z0-9_]*|__init__|__eq__|__class__|__name__)\Z", name)
                    self.assertNotIn(word, BARRED, name)

    def test_no_name_hides_another(self):
        for name, tree in TREES.items():
            classes = [node.name for node in tree.body if isinstance(node, ast.ClassDef)]
            imported = [alias.name for node in tree.body if isinstance(node, ast.ImportFrom) for alias in node.names]
            barred = (set(classes) | set(imported) | set(dir(builtins))) - {"_"}
            self.assertEqual(defined_in(tree) & set(dir(builtins)), set(), name)
            for node in ast.walk(tree):
                if isinstance(node, ast.FunctionDef):
                    self.assertEqual(bound_inside(node) & barred, set(), (name, node.name))

    def test_special_methods(self):
        for name, tree in TREES.items():
            for node in ast.walk(tree):
                if isinstance(node, ast.FunctionDef) and node.name.startswith("__"):
                    self.assertIn(node.name, SPECIAL, name)

    def test_properties(self):
        others = []
        for tree in TREES.values():
            for node in ast.walk(tree):
                if isinstance(node, ast.FunctionDef) and not node.decorator_list:
                    others.append(node.name)
                elif isinstance(node, ast.Attribute) and not isinstance(node.ctx, ast.Load):
                    others.append(node.attr)
        self.assertEqual(set(properties()) & (set(others) | METHODS), set())
        for node in properties().values():
            self.assertIsInstance(node.body[-1], ast.Return)
            self.assertLessEqual(len(node.body), 2)

    def test_names_of_classes(self):
        for name, tree in TREES.items():
            for node in ast.walk(tree):
                if isinstance(node, ast.Attribute) and node.attr == "__class__":
                    self.assertIsInstance(node.value, ast.Name, name)
                if isinstance(node, ast.Attribute) and node.attr == "__name__":
                    self.assertEqual(node.value.attr, "__class__", name)
                if isinstance(node, ast.Name):
                    self.assertNotIn(node.id, ("__class__", "__name__"), name)

    def test_a_class_that_compares(self):
        for name, tree in TREES.items():
            for node in ast.walk(tree):
                self.assertNotIsInstance(node, ast.GeneratorExp, name)
                if isinstance(node, ast.Call) and isinstance(node.func, ast.Attribute):
                    self.assertNotEqual(node.func.attr, "sort", name)

    def test_builtins(self):
        for name, tree in TREES.items():
            known = set(bound_at_top(tree))
            for node in tree.body:
                if isinstance(node, (ast.FunctionDef, ast.ClassDef)):
                    known |= bound_inside(node)
            for node in ast.walk(tree):
                if isinstance(node, ast.Name) and node.id not in known:
                    self.assertIn(node.id, CALLED, (name, node.lineno))

    def test_calls(self):
        own = {node.name for tree in TREES.values() for node in ast.walk(tree) if isinstance(node, ast.FunctionDef)}
        for name, tree in TREES.items():
            for node in ast.walk(tree):
                if isinstance(node, ast.Call) and isinstance(node.func, ast.Attribute):
                    self.assertIn(node.func.attr, METHODS | own, (name, node.lineno))
                if isinstance(node, ast.Call) and isinstance(node.func, ast.Name) and node.func.id in CALLED:
                    given = {keyword.arg for keyword in node.keywords}
                    self.assertLessEqual(given, KEYWORDS.get(node.func.id, set()), (name, node.lineno))


if __name__ == "__main__":
    unittest.main()
