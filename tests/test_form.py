"""The form of the package: what can be told of ../shared/LANGUAGE.md without running it, and the interface's names."""

import ast
import builtins
import inspect
import pathlib
import unittest
from importlib import import_module

TOP = pathlib.Path(__file__).resolve().parent.parent
FOLDER = TOP / "ringproofs"

INTERFACE = {
    "errors": {"RingError": None, **{name: ["what"] for name in [
        "BadText", "BadRow", "Clash", "NoRule", "BadStep", "BadChart", "Leans", "NotLetBy", "NoWorld", "TooLong",
        "Known", "Unknown", "TooMany", "Leant", "BadDeed"]}},
    "terms": {"is_term": ["thing"], "variables": ["term"], "size": ["term"], "is_closed": ["thing"],
              "is_binding": ["thing"], "put": ["term", "binding"]},
    "trees": {"trees": ["most"]},
    "termtexts": {"term_text": ["term"], "term_in": ["text"], "binding_text": ["binding"], "binding_in": ["text"]},
    "rules": {"is_name": ["thing"], "is_atom": ["thing"], "is_rule": ["thing"], "atom_variables": ["atom"],
              "atom_put": ["atom", "binding"]},
    "ruletexts": {"atom_text": ["atom"], "atom_in": ["text"], "rule_text": ["rule"], "rule_in": ["text"]},
    "definitions": {"Definitions": ["rules"]},
    "deftexts": {"definitions_text": ["defs"], "definitions_in": ["text"]},
    "heights": {"height": ["defs", "atom"], "derivation": ["defs", "atom"], "is_derivation": ["defs", "atom", "thing"]},
    "worlds": {"holds": ["defs", "atom"], "bars": ["defs", "saying", "world"], "worlds": ["saying", "most"],
               "first_world": ["defs", "saying", "most"]},
    "sayings": {"is_saying": ["thing"], "saying_variables": ["saying"], "saying_put": ["saying", "binding"],
                "comes_of": ["saying", "other", "binding"], "bindings": ["saying", "other"]},
    "sayingtexts": {"saying_text": ["saying"], "saying_in": ["text"]},
    "steps": {"is_step": ["thing"]},
    "premises": {"premises": ["defs", "saying", "step"]},
    "charts": {"is_chart": ["thing"], "lines": ["defs", "chart", "*", "known"], "is_right": ["defs", "chart", "*", "known"],
               "leaned": ["chart"], "goals": ["chart"]},
    "charttexts": {"chart_text": ["chart"], "chart_in": ["text"]},
    "leaps": {"together": ["links", "others"], "leaps": ["defs", "chart", "*", "known"]},
    "papers": {"rings": ["defs", "chart", "*", "known"], "shows_falls": ["defs", "chart", "thing", "*", "known"]},
    "rounds": {"shows_round": ["defs", "chart", "thing", "*", "known"], "judged": ["defs", "chart", "*", "known"],
               "is_let_by": ["defs", "chart", "*", "known"]},
    "walks": {"walked": ["defs", "chart", "world"]},
    "trails": {"shows_trail": ["defs", "chart", "world", "thing"], "longest": ["defs", "chart", "most"]},
    "stepped": {"is_stepped": ["defs", "chart", "places", "*", "known"], "stepped": ["defs", "chart", "*", "known"]},
    "straight": {"straight": ["defs", "chart", "*", "known"], "is_straight": ["chart_lines"]},
    "search": {"search": ["defs", "saying", "most", "*", "size"], "tries": ["defs", "saying", "done"]},
    "shorter": {"shorter": ["defs", "chart", "*", "known"]},
    "together": {"put_in": ["chart", "charts"]},
    "shelf": {"Shelf": ["rules", "*", "most"]},
    "deeds": {"do": ["shelf", "deeds"]},
    "desk": {"answers": ["text"]},
}
OBJECTS = ("Definitions", "Shelf")
LEFT_OUT = {"known": (), "size": 3}
METHODS = {
    ("definitions", "Definitions"): {"tell": ["rule"], "rules": ["word"], "words": [], "terms": ["word"], "all_rules": [],
                                     "without": ["place"], "twin": [], "__eq__": None},
    ("shelf", "Shelf"): {"tell": ["rule"], "untell": ["place"], "add": ["name", "chart"], "drop": ["name"], "undo": [], "names": [],
                         "standing": [], "chart": ["name"], "saying": ["name"], "leans": ["name"], "definitions": [], "charts": [],
                         "twin": [], "log": [], "is_open": [], "__len__": None},
}

LIBRARY = {"heapq", "math", "itertools", "collections"}
BUILTINS = set("""len range enumerate zip min max sum abs sorted reversed int str bool list tuple dict set isinstance
    ord repr any all divmod pow iter next Exception ValueError TypeError KeyError IndexError LookupError ZeroDivisionError
    ArithmeticError OverflowError RuntimeError NotImplementedError StopIteration NotImplemented""".split())
METHOD_NAMES = set("""append clear copy count endswith extend find get index insert isalnum isalpha isdigit islower isspace
    isupper items join keys ljust lower lstrip partition pop remove replace reverse rfind rjust rpartition rsplit rstrip
    setdefault split splitlines startswith strip update upper values zfill bit_length isdecimal isascii removeprefix
    removesuffix rindex add discard""".split())
NO_WORDS = set("""type typing typing_extensions enum Enum IntEnum StrEnum Flag IntFlag Generic Protocol ABC ABCMeta namedtuple
    NamedTuple TypedDict TYPE_CHECKING abstractmethod""".split())
NO_NAMES = set("""register mro elements open input law version_info with_traceback add_note attrgetter breakpoint compile
    copyright credits delattr dir eval exec exit gc getattr globals hasattr help id importlib license locals methodcaller
    os quit setattr super type vars sys""".split())
AT_ONCE = ("list", "tuple", "dict", "sorted", "sum", "any", "all", "enumerate", "zip")
NO_NODES = (ast.GeneratorExp, ast.AsyncFunctionDef, ast.Await, ast.Global, ast.Div, ast.Yield, ast.YieldFrom, ast.Match)


def files():
    return sorted(FOLDER.glob("*.py"))


def tree_of(path):
    return ast.parse(path.read_text(encoding="ascii"))


def functions(tree):
    return [node for node in ast.walk(tree) if isinstance(node, ast.FunctionDef)]


class Files(unittest.TestCase):
    def test_folder(self):
        for path in FOLDER.iterdir():
            if path.name != "__pycache__":
                self.assertTrue(path.suffix == ".py" and path.stem.replace("_", "a").isalnum() and path.stem.islower(), path)
        self.assertTrue((FOLDER / "__init__.py").exists())
        self.assertLessEqual(len(files()), 100)

    def test_lines(self):
        for path in files():
            text = path.read_text(encoding="ascii")
            self.assertTrue(all(sign == "\n" or " " <= sign <= "~" for sign in text), path)
            self.assertLessEqual(len(text.splitlines()), 399, path)
            for line in text.splitlines():
                self.assertLessEqual(len(line), 120, path)

    def test_functions(self):
        for path in files():
            for node in functions(tree_of(path)):
                self.assertLessEqual(node.end_lineno - node.lineno + 1, 40, (path.name, node.name))
                self.assertEqual([d for d in node.decorator_list if getattr(d, "id", "") not in ("property", "staticmethod")], [])


class Statements(unittest.TestCase):
    def test_module_level(self):
        for path in files():
            for node in tree_of(path).body:
                docstring = isinstance(node, ast.Expr) and isinstance(node.value, ast.Constant)
                self.assertTrue(docstring or isinstance(node, (ast.ImportFrom, ast.FunctionDef, ast.ClassDef, ast.Assign)),
                                (path.name, node.lineno))

    def test_imports(self):
        needs = {}
        for path in files():
            needs[path.stem] = []
            for node in ast.walk(tree_of(path)):
                self.assertNotIsInstance(node, ast.Import, path.name)
                if not isinstance(node, ast.ImportFrom) or node.module in LIBRARY:
                    continue
                top, _, stem = node.module.partition(".")
                self.assertEqual((top, node.level), ("ringproofs", 0), path.name)
                needs[path.stem].append(stem)
                own = [each.name if not isinstance(each, ast.Assign) else each.targets[0].id
                       for each in tree_of(FOLDER / (stem + ".py")).body
                       if isinstance(each, (ast.FunctionDef, ast.ClassDef, ast.Assign))]
                for alias in node.names:
                    self.assertIn(alias.name, own, path.name)
                    self.assertIsNone(alias.asname)
        done = set()
        while len(done) < len(needs):
            free = [stem for stem in needs if stem not in done and set(needs[stem]) <= done]
            self.assertTrue(free, "files import round and round")
            done.update(free)

    def test_nodes(self):
        for path in files():
            for node in ast.walk(tree_of(path)):
                self.assertNotIsInstance(node, NO_NODES, (path.name, getattr(node, "lineno", 0)))
                if isinstance(node, ast.Constant):
                    self.assertNotIsInstance(node.value, (float, complex), path.name)
                if isinstance(node, ast.Compare):
                    for sign, right in zip(node.ops, node.comparators):
                        if isinstance(sign, (ast.Is, ast.IsNot)):
                            self.assertIn(getattr(right, "value", 0), (None, True, False), (path.name, node.lineno))

    def test_sets_are_only_sorted_or_measured(self):
        for path in files():
            parents = {child: node for node in ast.walk(tree_of(path)) for child in ast.iter_child_nodes(node)}
            for node in parents:
                if isinstance(node, (ast.Set, ast.SetComp)):
                    above = parents[node]
                    self.assertTrue(isinstance(above, ast.Call) and above.func.id in ("sorted", "len"), (path.name, node.lineno))

    def test_iterated_at_once(self):
        for path in files():
            parents = {child: node for node in ast.walk(tree_of(path)) for child in ast.iter_child_nodes(node)}
            for node, above in parents.items():
                if not isinstance(node, ast.Call):
                    continue
                name = getattr(node.func, "id", getattr(node.func, "attr", None))
                if name not in ("zip", "enumerate", "reversed", "range", "items", "keys", "values"):
                    continue
                at_once = isinstance(above, (ast.For, ast.comprehension)) and above.iter is node
                called = isinstance(above, ast.Call) and getattr(above.func, "id", None) in AT_ONCE and above.args[0] is node
                self.assertTrue(at_once or called, (path.name, node.lineno))

    def test_nothing_calls_itself(self):
        for path in files():
            calls = {node.name: {inner.func.id for inner in ast.walk(node)
                                 if isinstance(inner, ast.Call) and isinstance(inner.func, ast.Name)}
                     for node in functions(tree_of(path))}
            for name in calls:
                reached = set()
                todo = [name]
                while todo:
                    for each in calls.get(todo.pop(), ()):
                        if each not in reached:
                            reached.add(each)
                            todo.append(each)
                self.assertNotIn(name, reached, path.name)


class Names(unittest.TestCase):
    def bound_in(self, tree):
        for node in ast.walk(tree):
            if isinstance(node, (ast.FunctionDef, ast.ClassDef)):
                yield node.name
            elif isinstance(node, ast.arg):
                yield node.arg
            elif isinstance(node, ast.Name) and isinstance(node.ctx, ast.Store):
                yield node.id

    def test_builtins(self):
        for path in files():
            tree = tree_of(path)
            for name in self.bound_in(tree):
                self.assertNotIn(name, dir(builtins), path.name)
                self.assertNotIn(name, NO_NAMES, path.name)
            bound = set(self.bound_in(tree))
            for node in ast.walk(tree):
                if isinstance(node, ast.Name) and node.id in dir(builtins) and node.id not in bound:
                    self.assertIn(node.id, BUILTINS, (path.name, node.lineno))

    def test_no_local_has_the_name_of_an_import(self):
        for path in files():
            tree = tree_of(path)
            imported = {alias.name for node in tree.body if isinstance(node, ast.ImportFrom) for alias in node.names}
            self.assertEqual(imported & set(self.bound_in(tree)), set(), path.name)

    def test_methods(self):
        own = {node.name for path in files() for each in ast.walk(tree_of(path)) if isinstance(each, ast.ClassDef)
               for node in each.body if isinstance(node, ast.FunctionDef)}
        for path in files():
            for node in ast.walk(tree_of(path)):
                if isinstance(node, ast.Call) and isinstance(node.func, ast.Attribute):
                    self.assertIn(node.func.attr, METHOD_NAMES | own, (path.name, node.lineno))

    def test_words_and_strings(self):
        for path in files():
            tree = tree_of(path)
            self.assertFalse({node.id for node in ast.walk(tree) if isinstance(node, ast.Name)} & NO_WORDS, path.name)
            for node in ast.walk(tree):
                if isinstance(node, ast.Constant) and isinstance(node.value, str):
                    self.assertNotIn("%", node.value, path.name)
                    self.assertNotIn("__", node.value, path.name)


class Interface(unittest.TestCase):
    def handed(self, thing):
        """The names of the arguments, a * ahead of those that are handed in by names alone."""
        found = []
        for name, told in inspect.signature(thing).parameters.items():
            if told.kind == inspect.Parameter.KEYWORD_ONLY and "*" not in found:
                found.append("*")
            found.append(name)
        return [name for name in found if name != "self"]

    def test_what_may_be_left_out(self):
        for stem, names in INTERFACE.items():
            for name, wanted in names.items():
                if wanted is not None and name not in OBJECTS:
                    told = inspect.signature(getattr(import_module("ringproofs." + stem), name)).parameters
                    left_out = {each: parameter.default for each, parameter in told.items()
                                if parameter.default is not inspect.Parameter.empty}
                    self.assertEqual(left_out, {each: LEFT_OUT[each] for each in told if each in LEFT_OUT}, name)

    def test_functions_and_classes(self):
        for stem, names in INTERFACE.items():
            module = import_module("ringproofs." + stem)
            defined = [node.name for node in tree_of(FOLDER / (stem + ".py")).body
                       if isinstance(node, (ast.FunctionDef, ast.ClassDef))]
            for name, wanted in names.items():
                self.assertIn(name, defined, stem)
                if wanted is not None:
                    self.assertEqual(self.handed(getattr(module, name)), wanted, name)

    def test_methods_stand_in_their_class(self):
        for (stem, name), methods in METHODS.items():
            kind = getattr(import_module("ringproofs." + stem), name)
            for method, wanted in methods.items():
                self.assertIn(method, vars(kind), name)
                if wanted is not None:
                    self.assertEqual(self.handed(vars(kind)[method]), wanted, method)


if __name__ == "__main__":
    unittest.main()
