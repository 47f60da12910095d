"""The form of the package's files: a part of what ../shared/LANGUAGE.md asks for, and the interface."""

import ast
import builtins
import importlib
import inspect
import re
import unittest
import warnings
from pathlib import Path

FOLDER = Path(__file__).resolve().parent.parent / "watchedways"
PATHS = sorted(FOLDER.glob("*.py"))
TREES = {path.stem: ast.parse(path.read_text(encoding="utf-8")) for path in PATHS}

def methods_of(name):
    """The methods of a reckoning."""
    told = {"join": "a b", "times": "a b", "meet": "a b", "left": "a c", "right": "c a", "greatest": "",
            "beneath": "a b", "is_worth": "thing", "__eq__": "other"}
    return {f"{name}.{method}": told[method] for method in told}


INTERFACE = {
    "words": {"is_word": "thing"},
    "books": {"Book": "watches", "Book.has": "thing", "Book.with_watch": "watch", "Book.without_watch": "watch",
              "Book.__eq__": "other"},
    "zigzags": {"neighbours": "book word spot", "classes": "book word", "is_told": "book word",
                "is_zigzag": "book word thing", "zigzag": "book word", "calmest": "book word"},
    "cuts": {"cut": "book word", "greatest_cut": "book word", "is_cut": "book word thing"},
    "rules": {"followed": "word rule", "rule": "book word", "calm_rule": "book word", "rule_of": "book word zigzag",
              "unfold": "rule rules", "is_rule": "book word thing"},
    "sayings": {"write_rule": "rule", "saying": "rule", "read_rule": "text", "read_saying": "text"},
    "ratios": {"Ratio": "top bottom", "Ratio.over": "other", "Ratio.less": "other", "Ratio.__eq__": "other"},
    "reckonings": {"Reckoning": "joins products none one", **methods_of("Reckoning")},
    "lengths": {"Lengths": "", **methods_of("Lengths")},
    "numbers": {"Numbers": "", "Numbers.join": "a b", "Numbers.times": "a b", "Numbers.is_worth": "thing",
                "Numbers.__eq__": "other"},
    "making": {"yes_no": "", "widths": "most", "turned": "reckoning", "beside": "one other", "lots": "products one",
               "chain": "times"},
    "webs": {"Web": "reckoning places roads", "Web.worth": "one letter other", "Web.table": "word",
             "Web.tables": "book", "Web.__eq__": "other", "product": "reckoning one other",
             "is_table": "reckoning many thing"},
    "tongues": {"Tongue": "signs moves ends", "Tongue.has": "text", "Tongue.__eq__": "other",
                "tongue_of": "signs texts", "again": "tongue", "turned_tongue": "tongue",
                "first_texts": "tongue many", "many_texts": "tongue size"},
    "speaking": {"Tongues": "signs", **methods_of("Tongues")},
    "running": {"run": "reckoning tables rule", "run_back": "reckoning tables rule"},
    "flats": {"flat_through": "width row rows", "flat_on": "flat table", "flat_back": "flat table",
              "is_in_flat": "flat thing"},
    "solving": {"solve": "tables rule"},
    "partings": {"parting": "book word reckoning", "parting_roads": "book word",
                 "is_parting": "book word reckoning thing", "tables_of_roads": "places roads word"},
    "telling": {"tells": "book words", "tells_book": "one other", "rules_for": "one other", "needless": "book",
                "told_words": "book letters most"},
    "sublots": {"least_lots": "book words", "unable_lots": "book words", "is_least_lot": "book words thing",
                "is_unable_lot": "book words thing"},
    "watchers": {"Watchers": "watchers", "Watchers.names": "", "Watchers.sees": "names", "Watchers.can": "names word",
                 "Watchers.least": "word", "Watchers.unable": "word", "Watchers.needed": "word",
                 "Watchers.guards": "word"},
    "prices": {"cheapest": "book word offers", "bars": "book word offers", "is_bars": "book word offers price thing"},
    "far": {"powers": "book before middle behind", "far_told": "book before middle behind times"},
    "lone": {"lone_told": "lengths last", "lone_gaps": "lengths"},
    "fresh": {"fresh_web": "known", "sure_pairs": "known word"},
    "halls": {"Hall": "reckoning places", "Hall.road": "one letter other worth", "Hall.watcher": "name",
              "Hall.watch": "name watch", "Hall.unwatch": "name watch", "Hall.undo": "", "Hall.seen": "name watch",
              "Hall.work_out": "names word", "Hall.watchers": "", "Hall.all_places": "", "Hall.trying": "deed"},
    "listings": {"write_web": "web", "read_web": "text", "write_book": "book", "read_book": "text"},
    "maps": {"is_map": "one other thing", "maps": "one other", "mapped": "web other led",
             "mapped_table": "one other led table"},
    "passing": {"passing": "watchers ties menu", "tells_at_last": "watchers ties menu name word",
                "least_ties": "watchers ties menu name word"},
}

LET_BUILTINS = set("""
    len range enumerate zip min max sum abs sorted reversed int str bool list tuple dict set isinstance ord repr
    any all divmod Exception ValueError TypeError KeyError IndexError LookupError NotImplemented
""".split())
LET_METHODS = set("""
    append clear copy count endswith extend find get index insert isalnum isalpha isdigit islower isspace isupper
    items join keys ljust lower lstrip partition pop remove replace reverse rfind rjust rpartition rsplit rstrip
    setdefault split splitlines startswith strip update upper values zfill bit_length isascii
""".split())
LET_LIBRARY = {
    "heapq": {"heappush", "heappop", "heapify"}, "math": {"gcd", "lcm", "isqrt"}, "itertools": {"combinations"},
}
LET_DUNDERS = set("__init__ __eq__ __add__ __sub__ __mul__ __radd__ __rsub__ __rmul__ __neg__ __repr__ __len__".split())
BARRED_WORDS = set("""
    typing enum Enum Flag Generic Protocol ABC namedtuple dataclass overload type register mro elements open input
    law eval exec compile globals locals vars getattr setattr hasattr
""".split())
BARRED_NODES = (
    ast.Global, ast.AsyncFunctionDef, ast.AsyncFor, ast.AsyncWith, ast.Await, ast.Div, ast.ExceptHandler, ast.Match,
    ast.Set, ast.AnnAssign, ast.Import, ast.Nonlocal, ast.Yield, ast.YieldFrom, ast.With,
)


def functions_of(tree):
    return [node for node in ast.walk(tree) if isinstance(node, ast.FunctionDef)]


def names_given(function):
    """The parameters and local variables of a function."""
    given = [node.arg for node in ast.walk(function) if isinstance(node, ast.arg)]
    given += [node.id for node in ast.walk(function) if isinstance(node, ast.Name) and isinstance(node.ctx, ast.Store)]
    return given


def kept_ranges(function):
    """The names to which a function assigns a range."""
    rows = [node for node in ast.walk(function) if isinstance(node, ast.Assign) and isinstance(node.value, ast.Call)]
    return [row.targets[0].id for row in rows if getattr(row.value.func, "id", "") == "range"]


class Files(unittest.TestCase):
    def test_folder_holds_plain_files_alone(self):
        held = [path.name for path in FOLDER.iterdir() if path.name != "__pycache__"]
        self.assertEqual(sorted(held), [path.name for path in PATHS])
        self.assertIn("__init__.py", held)
        for name in held:
            self.assertTrue(re.fullmatch(r"[a-z_]+\.py", name), name)

    def test_sizes_and_signs(self):
        for path in PATHS:
            rows = path.read_text(encoding="utf-8").split("\n")
            self.assertLessEqual(len(rows), 399, path)
            for at, row in enumerate(rows, 1):
                self.assertTrue(len(row) <= 120 and re.fullmatch("[ -~]*", row), (path, at))
                self.assertEqual(row, row.rstrip(), (path, at))
        for name, tree in TREES.items():
            for function in functions_of(tree):
                self.assertLessEqual(function.end_lineno - function.lineno + 1, 40, (name, function.name))

    def test_no_warnings(self):
        with warnings.catch_warnings():
            warnings.simplefilter("error")
            for path in PATHS:
                compile(path.read_text(encoding="utf-8"), str(path), "exec")


class Rows(unittest.TestCase):
    def test_imports(self):
        led = {}
        for name, tree in TREES.items():
            led[name] = []
            for node in ast.walk(tree):
                if isinstance(node, ast.ImportFrom):
                    self.assertIn(node, tree.body, name)
                    words = {word.name for word in node.names}
                    self.assertEqual((node.level, {word.asname for word in node.names}), (0, {None}), name)
                    if node.module in LET_LIBRARY:
                        self.assertLessEqual(words, LET_LIBRARY[node.module], name)
                        continue
                    self.assertTrue(node.module.startswith("watchedways."), name)
                    module = node.module.split(".")[1]
                    led[name].append(module)
                    defined = {node.name for node in TREES[module].body if hasattr(node, "name")}
                    defined |= {node.targets[0].id for node in TREES[module].body if isinstance(node, ast.Assign)}
                    self.assertLessEqual(words, defined, name)
        while led:
            free = [name for name in led if not set(led[name]) & set(led)]
            self.assertTrue(free, f"files import from one another: {sorted(led)}")
            for name in free:
                del led[name]

    def test_barred_words_and_nodes(self):
        for name, tree in TREES.items():
            for node in ast.walk(tree):
                self.assertNotIsInstance(node, BARRED_NODES, (name, getattr(node, "lineno", 0)))
                for field in ("id", "attr", "arg", "name"):
                    self.assertNotIn(getattr(node, field, None), BARRED_WORDS, name)
                if isinstance(node, ast.Constant):
                    self.assertIsInstance(node.value, (int, str, type(None)), name)
                    self.assertNotIn("%", str(node.value), name)
                if isinstance(node, ast.Compare):
                    for op, side in zip(node.ops, node.comparators):
                        if isinstance(op, (ast.Is, ast.IsNot)):
                            self.assertIsInstance(side, ast.Constant, name)
                if isinstance(node, (ast.FunctionDef, ast.ClassDef)):
                    self.assertEqual(node.decorator_list, [], name)

    def test_what_is_done_at_last(self):
        for name, tree in TREES.items():
            for node in ast.walk(tree):
                for row in getattr(node, "finalbody", []):
                    self.assertIsInstance(row, ast.Assign, (name, row.lineno))
                    for part in ast.walk(row):
                        let = (ast.Assign, ast.Tuple, ast.Name, ast.Attribute, ast.expr_context)
                        self.assertIsInstance(part, let, (name, row.lineno))

    def test_combinations(self):
        for name, tree in TREES.items():
            for function in functions_of(tree):
                ranges = set()
                for node in ast.walk(function):
                    if isinstance(node, ast.For) and getattr(getattr(node.iter, "func", None), "id", "") == "range":
                        ranges.add(node.target.id)
                for node in ast.walk(function):
                    if isinstance(node, ast.Call) and getattr(node.func, "id", "") == "combinations":
                        self.assertEqual([part.__class__ for part in node.args], [ast.Name, ast.Name], name)
                        self.assertIn(node.args[1].id, ranges, name)

    def test_values_of_modules_are_plain(self):
        for name, tree in TREES.items():
            for node in tree.body:
                let = (ast.Assign, ast.FunctionDef, ast.ClassDef, ast.ImportFrom, ast.Expr)
                self.assertIsInstance(node, let, (name, node.lineno))
                if isinstance(node, ast.Assign):
                    for part in ast.walk(node.value):
                        self.assertNotIsInstance(part, (ast.Call, ast.Attribute, ast.Dict, ast.List), (name, node.lineno))
                        if isinstance(part, ast.BinOp) and isinstance(part.op, ast.Pow):
                            self.assertTrue(0 <= part.right.value <= 64, (name, node.lineno))

    def test_names(self):
        for name, tree in TREES.items():
            barred = set(dir(builtins))
            barred |= {word.name for node in tree.body if isinstance(node, ast.ImportFrom) for word in node.names}
            barred |= {node.name for node in tree.body if isinstance(node, ast.ClassDef)}
            for node in tree.body:
                if isinstance(node, ast.FunctionDef):
                    self.assertNotIn(node.name, barred, name)
            for function in functions_of(tree):
                for given in names_given(function):
                    self.assertNotIn(given, barred, (name, function.name))
                    self.assertFalse(given.startswith("__"), (name, function.name))
                if function.name.startswith("__"):
                    self.assertIn(function.name, LET_DUNDERS, name)

    def test_calls(self):
        own = {node.name for tree in TREES.values() for node in functions_of(tree)}
        for name, tree in TREES.items():
            for node in ast.walk(tree):
                if isinstance(node, ast.Name) and node.id in dir(builtins):
                    self.assertIn(node.id, LET_BUILTINS, name)
                if isinstance(node, ast.Call) and isinstance(node.func, ast.Attribute):
                    self.assertIn(node.func.attr, LET_METHODS | own | {"__init__"}, name)
                if isinstance(node, ast.Call) and isinstance(node.func, ast.Name):
                    if node.func.id in ("any", "all", "min", "max", "sum", "sorted"):
                        for given in node.args:
                            self.assertNotIsInstance(given, ast.GeneratorExp, (name, node.lineno))

    def test_ranges_are_iterated_at_once(self):
        takers = {"list", "tuple", "dict", "sorted", "sum", "any", "all", "enumerate", "zip", "min", "max", "reversed"}
        for name, tree in TREES.items():
            let = set()
            for node in ast.walk(tree):
                if isinstance(node, (ast.For, ast.comprehension)):
                    let.add(id(node.iter))
                if isinstance(node, ast.Call) and isinstance(node.func, ast.Name) and node.func.id in takers:
                    let.update(id(given) for given in node.args)
                if isinstance(node, ast.Assign) and isinstance(node.targets[0], ast.Name):
                    let.add(id(node.value))
                if isinstance(node, ast.Compare) and isinstance(node.ops[0], (ast.In, ast.NotIn)):
                    let.add(id(node.comparators[0]))
            for node in ast.walk(tree):
                if isinstance(node, ast.Call):
                    called = getattr(node.func, "id", getattr(node.func, "attr", None))
                    if called in ("range", "zip", "enumerate", "reversed", "items", "keys", "values"):
                        self.assertIn(id(node), let, (name, node.lineno))

    def test_kept_ranges_are_walked_alone(self):
        """A name may keep a range, but the package reads it only behind the `in` of a loop or a comprehension."""
        faults = []
        for name, tree in TREES.items():
            walked = {id(node.iter) for node in ast.walk(tree) if isinstance(node, (ast.For, ast.comprehension))}
            for function in functions_of(tree):
                inner = [node for node in ast.walk(function) if isinstance(node, (ast.Lambda, ast.GeneratorExp))]
                within = {id(node) for lesser in inner for node in ast.walk(lesser)}
                kept = kept_ranges(function)
                faults += [(name, word, "assigned twice") for word in kept if names_given(function).count(word) != 1]
                for node in ast.walk(function):
                    if isinstance(node, ast.Name) and isinstance(node.ctx, ast.Load) and node.id in kept:
                        if id(node) not in walked or id(node) in within:
                            faults.append((name, node.id, node.lineno))
        self.assertEqual(faults, [])


class Interface(unittest.TestCase):
    def test_names_and_arguments(self):
        for name, told in INTERFACE.items():
            module = importlib.import_module("watchedways." + name)
            defined = {node.name: node for node in TREES[name].body if hasattr(node, "name")}
            for path, arguments in told.items():
                thing, names = vars(module)[path.split(".")[0]], arguments.split()
                self.assertEqual(thing.__module__, module.__name__)
                self.assertIn(path.split(".")[0], defined)
                if "." in path:
                    thing, names = vars(thing)[path.split(".")[1]], ["self"] + names
                self.assertEqual(list(inspect.signature(thing).parameters), names, path)


if __name__ == "__main__":
    unittest.main()
