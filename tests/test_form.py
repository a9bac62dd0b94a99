"""The interface as it is listed, and the form of the package's files."""

import ast
import builtins
import importlib
import inspect
import re
import unittest
from pathlib import Path

PACKAGE = Path(__file__).resolve().parent.parent / "retrysafe"

# For each file that has landed: its classes with their arguments, properties, methods and operators.
INTERFACE = {
    "spaces": {"Space": ("width vectors=()", "basis width", {"is_within": "other"}, "or and invert contains eq len")},
    "jobs": {"Job": ("stores arguments temps steps",
                     "stores arguments temps steps variables executions places", {"statement": "place"}, "eq len")},
    "meanings": {"Matrix": ("rows", "rows", {}, "mul eq call")},
    "marks": {"Marks": ("job places=()", "places job", {"is_within": "other"}, "or and sub contains eq len iter")},
    "machine": {"Machine": ("job marks values arguments taken=()",
                            "durable temps here far failures plan taken_count is_ended",
                            {"step": "", "fail": "", "finish": "", "copy": "", "failing": "positions",
                             "trial": "positions"}, "irshift eq")},
    "studies": {"Study": ("job marks failures=None", "labels is_safe moments wrong_runs",
                          {"space": "far position", "equations": "far position"}, "")},
    "pairs": {"Pair": ("job marks", "labels is_safe wrong_run", {"space": "far one other"}, "")},
    "networks": {"Network": ("jobs", "jobs variables", {"named": "name", "meaning": "name", "study": "name marks",
                                                        "fewest": "name marks"}, "eq"),
                 "NetworkStudy": ("moments ways", "is_safe moments ways", {}, "")},
    "ledgers": {"Ledger": ("", "", {"begin": "run", "send": "run number", "close": "run", "arrive": "run number",
                                    "lose": "run number", "forget": "run number", "forgettable": "", "kept": "",
                                    "danger": "run number"}, "eq")},
    "changes": {"Change": ("old old_marks new new_marks places", "",
                           {"ends": "far", "find_wrong": "far word", "outcome": "run"}, "")},
    "journal": {"Journal": ("machine", "", {"step": "", "fail": "", "finish": "", "machine": "", "text": ""}, "")},
    "console": {"Console": ("", "", {"answer": "line"}, "")},
}
# The functions of these files with their arguments.
FUNCTIONS = {
    "texts": {"format_job": "job", "parse_job": "text"},
    "meanings": {"meaning": "job", "plain_run": "job values arguments taken"},
    "marks": {"passed": "job marks far", "cost": "marks costs=None"},
    "runs": {"outcome": "job marks values arguments plan taken", "attempts": "job marks values arguments plan taken"},
    "studies": {"right_choices": "job marks run", "least_failures": "job marks", "harmful": "job marks"},
    "papers": {"safe_paper": "study", "is_safe_paper": "job marks candidate"},
    "fewest": {"fewest": "job costs=None failures=None", "shows_fewest": "job marks runs costs=None",
               "prices": "job costs=None", "purposes": "job marks"},
    "pairs": {"pair_outcome": "job marks run", "fewest_for_two": "job costs=None"},
    "orders": {"exchangeable": "job", "exchanged": "job index", "joinable": "job", "joined": "job index",
               "orders": "job", "cheapest_form": "job"},
    "changes": {"repaired": "job marks costs=None"},
    "campaigns": {"plans": "job failures", "endings": "job marks values arguments failures",
                  "wrong_share": "job marks values arguments failures"},
    "journal": {"recover": "job marks values arguments text taken=()",
                "resume": "job marks values arguments text taken=()"},
}


def written(action, skipped=1):
    """The parameters of a function as they are written in the interface."""
    told = [str(parameter) for parameter in inspect.signature(action).parameters.values()]
    return " ".join(told[skipped:])


def files():
    return sorted(path for path in PACKAGE.rglob("*") if path.is_file() and "__pycache__" not in path.parts)


class TestInterface(unittest.TestCase):
    def test_classes_are_defined_in_their_files(self):
        for name, classes in INTERFACE.items():
            module = importlib.import_module("retrysafe." + name)
            for word, (arguments, properties, methods, operators) in classes.items():
                found = getattr(module, word)
                self.assertEqual(found.__module__, module.__name__)
                self.assertEqual(written(found.__init__), arguments)
                for one in properties.split():
                    self.assertIsInstance(vars(found)[one], property)
                for one, told in methods.items():
                    self.assertEqual(written(vars(found)[one]), told)
                for one in operators.split():
                    self.assertIn(f"__{one}__", vars(found))

    def test_functions_are_defined_in_their_files(self):
        for name, functions in FUNCTIONS.items():
            module = importlib.import_module("retrysafe." + name)
            for word, arguments in functions.items():
                found = getattr(module, word)
                self.assertEqual(found.__module__, module.__name__)
                self.assertEqual(written(found, 0), arguments)
                self.assertEqual(inspect.isgeneratorfunction(found), word in ("attempts", "plans"))


class TestForm(unittest.TestCase):
    def test_the_folder_contains_python_files_alone(self):
        self.assertEqual({path.suffix for path in files()}, {".py"})
        self.assertTrue((PACKAGE / "__init__.py").is_file())

    def test_characters_and_lengths(self):
        for path in files():
            lines = path.read_bytes().decode("ascii").split("\n")
            self.assertLess(len(lines), 400, path)
            for number, line in enumerate(lines, 1):
                self.assertLessEqual(len(line), 120, (path, number))
                self.assertTrue(all(" " <= letter <= "~" for letter in line), (path, number))

    def test_functions_have_at_most_forty_lines(self):
        for path in files():
            for node in ast.walk(ast.parse(path.read_text())):
                if isinstance(node, ast.FunctionDef):
                    self.assertLessEqual(node.end_lineno - node.lineno, 39, (path, node.name))

    def test_imports_are_those_that_are_allowed(self):
        for path in files():
            for node in ast.walk(ast.parse(path.read_text())):
                self.assertNotIsInstance(node, ast.Import, path)
                if isinstance(node, ast.ImportFrom):
                    self.assertTrue(node.module in ("math",) or node.module.startswith("retrysafe."), path)


def trees():
    """The file and the syntax tree of each file."""
    return [(path, ast.parse(path.read_text())) for path in files()]


class TestNames(unittest.TestCase):
    def test_no_name_is_that_of_a_builtin_a_class_or_an_import(self):
        for path, tree in trees():
            taken = set(dir(builtins)) | {node.name for node in tree.body if isinstance(node, ast.ClassDef)}
            for node in tree.body:
                if isinstance(node, ast.ImportFrom):
                    taken.update(alias.name for alias in node.names)
            for node in ast.walk(tree):
                if isinstance(node, ast.Name) and isinstance(node.ctx, ast.Store):
                    self.assertNotIn(node.id, taken, (path, node.lineno))
                if isinstance(node, ast.arg):
                    self.assertNotIn(node.arg, taken, (path, node.lineno))

    def test_imported_names_are_used(self):
        for path, tree in trees():
            used = {node.id for node in ast.walk(tree) if isinstance(node, ast.Name)}
            for node in tree.body:
                if isinstance(node, ast.ImportFrom):
                    self.assertEqual({alias.name for alias in node.names} - used, set(), path)

    def test_no_attribute_has_the_name_of_a_method_or_a_property(self):
        methods, properties, attributes = set(), set(), set()
        for _, tree in trees():
            for node in ast.walk(tree):
                if isinstance(node, ast.Attribute) and isinstance(node.ctx, ast.Store):
                    attributes.add(node.attr)
                for part in node.body if isinstance(node, ast.ClassDef) else ():
                    if isinstance(part, ast.FunctionDef):
                        told = [ast.unparse(one) for one in part.decorator_list]
                        (properties if "property" in told else methods).add(part.name)
        self.assertEqual((attributes & methods, attributes & properties, methods & properties), (set(), set(), set()))

    def test_modules_do_not_import_in_circles(self):
        ahead = {path.stem: {node.module.removeprefix("retrysafe.") for node in tree.body if isinstance(node, ast.ImportFrom)
                             and node.module.startswith("retrysafe.")} for path, tree in trees()}
        while ahead:
            ready = [name for name, needs in ahead.items() if not needs & set(ahead)]
            self.assertGreater(len(ready), 0, ahead)
            for name in ready:
                del ahead[name]

    def test_no_generator_expression_lambda_or_annotation(self):
        for path, tree in trees():
            for node in ast.walk(tree):
                self.assertNotIsInstance(node, (ast.GeneratorExp, ast.Lambda, ast.AnnAssign, ast.Assert, ast.Global), path)
                if isinstance(node, ast.arg):
                    self.assertIsNone(node.annotation, path)


# What L12 bars: words from whole files, names with these beginnings, and these names.
BARRED_WORD = re.compile(r"\b(_wall|_WallAttr)\b")
BARRED_WALL = re.compile(r"_wall.*")
BARRED_NAME = re.compile(r"(_pe_|_dcw_|_enum_|_cm_|_twin_re_|_lay_|_law_|_stub_|_sre|_WallAttr).*"
                         r"|(_cold|_tuplegetter|_outside|_record|_written_out|_member_names)[0-9_]*")
# Names as L12 has them: one underscore ahead at most, or two around the name of a method of L5.
PLAIN_NAME = re.compile(r"_?[A-Za-z][A-Za-z0-9_]*|_|__[a-z]+__", re.ASCII)


def strings_in(value):
    """The strings that a field of a syntax tree has, itself or in its list."""
    return [one for one in (value if isinstance(value, list) else [value]) if isinstance(one, str)]


def names_of(node):
    """The names that a node of a syntax tree has itself."""
    if isinstance(node, ast.Constant):
        return []
    if isinstance(node, ast.Assign) and "__slots__" in [ast.unparse(target) for target in node.targets]:
        return [part.value for part in ast.walk(node.value) if isinstance(part, ast.Constant)]
    words = [word for _, value in ast.iter_fields(node) for word in strings_in(value)]
    return [name for word in words for name in word.split(".")]


def members_of(tree):
    """The nodes that name attributes or methods."""
    classes = [node for node in ast.walk(tree) if isinstance(node, ast.ClassDef)]
    methods = [part for node in classes for part in node.body]
    return methods + [node for node in ast.walk(tree) if isinstance(node, ast.Attribute)]


def barred_names(text):
    """The words and names of the text of a file that L12 bars."""
    tree = ast.parse(text)
    members = members_of(tree)
    found = BARRED_WORD.findall(text)
    for node in ast.walk(tree):
        for name in names_of(node):
            is_wall = BARRED_WALL.fullmatch(name) and node not in members
            if is_wall or BARRED_NAME.fullmatch(name) or not PLAIN_NAME.fullmatch(name):
                found.append(name)
    return found


# Texts in which NAME is a name, one for each way in which a file can have one.
PLACES_OF_NAMES = (
    "NAME = 1", "def NAME():\n    pass", "class NAME:\n    pass", "def f(NAME):\n    pass", "def f(*NAME):\n    pass",
    "def f(**NAME):\n    pass", "def f(*, NAME=1):\n    pass", "f(NAME=1)", "f(NAME)", "for k, (NAME, j) in xs:\n    pass",
    "ys = [NAME for NAME in xs]", "first, *NAME = xs", "f = lambda NAME: 1", "with a as NAME:\n    pass",
    "try:\n    pass\nexcept ValueError as NAME:\n    pass", "def f():\n    global k, NAME",
    "def f():\n    k = 0\n    def g():\n        nonlocal k, NAME", "match x:\n    case NAME:\n        pass",
    "match x:\n    case [a, *NAME]:\n        pass", "match x:\n    case Box(NAME=1):\n        pass",
    "from retrysafe.NAME import a", "from retrysafe.jobs import NAME", "from retrysafe.jobs import a as NAME",
    "x = f'{NAME}'", "def f(k: NAME):\n    pass",
)
# The same for attributes and methods.
PLACES_OF_MEMBERS = (
    "self.NAME = 1", "x = a.NAME.step()", "a[0].NAME += 1", "x = f'{a.NAME}'", "class Box:\n    def NAME(self):\n        pass",
)
BARRED_EVERYWHERE = (
    "_pe_x", "_dcw_", "_enum_x", "_cm_x", "_twin_re_x", "_lay_x", "_law_x", "_stub_x", "_sre", "_srex", "_WallAttr",
    "_WallAttrs", "_cold", "_tuplegetter", "_outside", "_record", "_written_out", "_member_names", "_cold1", "_record_",
    "_record2", "_outside_2", "__x", "__record", "_1",
)
ALLOWED = ("_", "_log", "record", "records", "_records", "Record", "cold", "_colder", "_wal", "_enum", "x_record", "__init__")


class TestBarredNames(unittest.TestCase):
    def test_no_file_has_a_name_that_is_barred(self):
        for path in files():
            self.assertEqual(barred_names(path.read_text()), [], path)
            self.assertEqual(barred_names(path.stem), [], path)

    def test_barred_names_are_found_wherever_they_stand(self):
        for name in BARRED_EVERYWHERE:
            for place in PLACES_OF_NAMES + PLACES_OF_MEMBERS:
                text = place.replace("NAME", name)
                self.assertIn(name, barred_names(text), text)
            self.assertIn(name, barred_names(f"class Box:\n    __slots__ = ('{name}', 'n')"))

    def test_names_with_a_wall_are_found_but_for_attributes_and_methods(self):
        for place in PLACES_OF_NAMES:
            text = place.replace("NAME", "_walls")
            self.assertIn("_walls", barred_names(text), text)
        for place in PLACES_OF_MEMBERS:
            text = place.replace("NAME", "_walls")
            self.assertEqual(barred_names(text), [], text)

    def test_barred_words_are_found_in_comments_and_strings(self):
        for word in ("_wall", "_WallAttr"):
            for text in (f"# a {word} here", f"x = 'a {word}'", f'"""a {word}."""', f"self.{word} = 1"):
                self.assertIn(word, barred_names(text), text)

    def test_other_names_are_not_found(self):
        for name in ALLOWED:
            for place in PLACES_OF_NAMES + PLACES_OF_MEMBERS:
                text = place.replace("NAME", name)
                self.assertEqual(barred_names(text), [], text)
        self.assertEqual(barred_names("# a _record\nx = 'a _record'"), [])


if __name__ == "__main__":
    unittest.main()
