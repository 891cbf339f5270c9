"""The interface of the document, and the plain form of the package's files."""

import ast
import builtins
import importlib
import inspect
import unittest
from pathlib import Path

import ziplanes

FOLDER = Path(ziplanes.__file__).parent

INTERFACE = {
    "plans": {
        "is_plan": "(value)", "size_of": "(plan)", "lanes_of": "(plan)", "path_of": "(plan, name)",
        "joined": "(plan, name, many)", "rest_after": "(plan, count)",
    },
    "places": {
        "place_of": "(plan, car)", "car_at": "(plan, place)", "walk_cars": "(plan, first=0)",
        "cars_within": "(plan, count)", "ends_of": "(plan)", "pieces_of": "(plan, name)",
        "first_difference": "(one, two)",
    },
    "delays": {
        "delay_of": "(plan, car, name, many)", "first_delayed": "(plan, name, many)",
        "greatest_delay": "(plan, name, many)",
    },
    "rows": {
        "count_trees": "(lanes)", "nth_tree": "(row, index)", "tree_rank": "(plan)",
        "earliest_place": "(row, car)", "latest_place": "(row, car)", "earliest_tree": "(row, car)",
        "possible_places": "(row, car)", "count_with_place": "(row, car, place)",
    },
    "labels": {
        "labels_of": "(plan, count)", "shape_of": "(plan)", "plan_with": "(shape, labels)",
        "plans_with": "(labels)",
    },
    "text": {
        "format_plan": "(plan)", "parse_plan": "(text)", "listed": "(plan, first, count)",
    },
}

# For each class its bases, its properties, and its methods with their parameters; these stand in the class itself.
CLASSES = {
    "roads": {
        "Road": (["object"], ["plan", "size", "names"], {
            "__init__": "(self, plan)", "rest": "(self, count)", "cars": "(self, first=0)", "told": "(self)",
            "__call__": "(self, place)", "__len__": "(self)", "__eq__": "(self, other)", "__add__": "(self, other)",
            "__rshift__": "(self, other)", "__contains__": "(self, value)",
        }),
        "Lane": (["Road"], ["name"], {"__init__": "(self, name, many, first=0)"}),
        "Zip": (["Road"], ["sides"], {"__init__": "(self, one, two)"}),
        "Then": (["Road"], ["sides"], {"__init__": "(self, one, two)"}),
    },
    "live": {
        "LiveRoad": (["object"], ["plan", "gone"], {
            "__init__": "(self, plan)", "go": "(self, count=1)", "peek": "(self, count=1)", "skip": "(self, count)",
            "arrive": "(self, name, many)", "undo": "(self)", "ahead_of": "(self, car)", "report": "(self)",
            "twin": "(self)", "__len__": "(self)", "__eq__": "(self, other)",
        }),
        "LoggedRoad": (["LiveRoad"], ["log"], {"__init__": "(self, plan)"}),
        "CountingRoad": (["LiveRoad"], ["counts"], {"__init__": "(self, plan)"}),
        "LoggedCountingRoad": (["LoggedRoad", "CountingRoad"], [], {"__init__": "(self, plan)"}),
    },
}

BUILTINS = (
    "len range enumerate zip min max sum abs sorted reversed int str bool bytes list tuple dict set frozenset "
    "isinstance ord repr any all divmod pow type super property staticmethod classmethod ValueError"
).split()


def files():
    return sorted(path for path in FOLDER.iterdir() if path.name != "__pycache__")


def nodes(kind):
    for path in files():
        for node in ast.walk(ast.parse(path.read_text(encoding="ascii"))):
            if isinstance(node, kind):
                yield path, node


def names_bound(item):
    """The names that a statement of a file gives to functions, classes and values of this file."""
    if isinstance(item, ast.Assign):
        return [target.id for target in item.targets]
    return [item.name] if hasattr(item, "name") else []


class Interface(unittest.TestCase):
    def test_functions_are_defined_where_they_are_listed(self):
        for file, functions in INTERFACE.items():
            module = importlib.import_module("ziplanes." + file)
            for name, signature in functions.items():
                function = getattr(module, name)
                self.assertEqual(function.__module__, module.__name__)
                self.assertEqual(str(inspect.signature(function)), signature)

    def test_classes_have_what_is_listed_for_them(self):
        for file, classes in CLASSES.items():
            module = importlib.import_module("ziplanes." + file)
            for name, (bases, properties, methods) in classes.items():
                kind = getattr(module, name)
                self.assertEqual(kind.__module__, module.__name__)
                self.assertEqual([base.__name__ for base in kind.__bases__], bases)
                for item in properties:
                    self.assertIsInstance(vars(kind)[item], property, (name, item))
                    self.assertIsNone(vars(kind)[item].fset)
                for item, signature in methods.items():
                    self.assertEqual(str(inspect.signature(vars(kind)[item])), signature, (name, item))

    def test_class_values_and_methods_without_objects(self):
        from ziplanes.roads import Road
        self.assertEqual(vars(Road)["MOST"], 40)
        self.assertIsInstance(vars(Road)["read"], classmethod)
        self.assertIsInstance(vars(Road)["is_car"], staticmethod)
        self.assertEqual(str(inspect.signature(Road.read)), "(text)")
        self.assertEqual(str(inspect.signature(Road.is_car)), "(value)")


class Form(unittest.TestCase):
    def test_only_source_files(self):
        for path in files():
            self.assertRegex(path.name, r"^[a-z0-9_]+\.py$")

    def test_sizes_and_characters(self):
        for path in files():
            text = path.read_bytes().decode("ascii")
            self.assertRegex(text, r"\A[ -~\n]*\Z")
            lines = text.split("\n")
            self.assertLessEqual(len(lines), 399)
            self.assertLessEqual(max(len(line) for line in lines), 120)

    def test_functions_are_short(self):
        for path, node in nodes(ast.FunctionDef):
            self.assertLessEqual(node.end_lineno - node.lineno + 1, 40, (path, node.name))

    def test_imports(self):
        for path, node in nodes((ast.Import, ast.ImportFrom)):
            self.assertIsInstance(node, ast.ImportFrom, path)
            if node.module.startswith("ziplanes."):
                source = FOLDER / (node.module.split(".")[1] + ".py")
                defined = [name for item in ast.parse(source.read_text()).body for name in names_bound(item)]
                for alias in node.names:
                    self.assertIn(alias.name, defined, path)
            else:
                self.assertIn(node.module, ["heapq", "math", "itertools", "collections"], path)

    def test_only_plain_builtins(self):
        for path, node in nodes(ast.Name):
            # A doctest of another file may have put `_` among the builtins.
            if node.id != "_" and hasattr(builtins, node.id):
                self.assertIn(node.id, BUILTINS, (path, node.lineno))

    def test_no_floats_and_no_state(self):
        for path, node in nodes((ast.Constant, ast.Div, ast.Global, ast.Nonlocal)):
            self.assertIsInstance(node, ast.Constant, path)
            self.assertNotIsInstance(node.value, float, path)


if __name__ == "__main__":
    unittest.main()
