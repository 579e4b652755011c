"""The interface: names, arguments, where each is defined; and what the files consist of."""

import ast
import builtins
import importlib
import inspect
import pathlib
import subprocess
import sys
import unittest

FOLDER = pathlib.Path(__file__).resolve().parent.parent / "foldednets"

FUNCTIONS = {
    "nets": {"beside": ["places", "lines", "place"], "product": ["places", "lines", "more", "ties"]},
    "folds": {"folds": ["places", "lines"], "left_after": ["places", "lines", "order"],
              "full_order": ["places", "lines"], "end_size": ["places", "lines"], "ends": ["places", "lines"],
              "count_orders": ["places", "lines"], "count_orders_to": ["places", "lines", "left"],
              "order_keeping": ["places", "lines", "place"], "order_holding": ["places", "lines", "held"]},
    "maps": {"fold_map": ["places", "lines", "order"], "renaming": ["places", "lines", "order", "other"]},
    "names": {"renamings": ["places", "lines"], "rounds_left": ["places", "lines"], "middle": ["places", "lines"]},
    "standings": {"is_standing": ["people", "ties", "places", "lines", "standing"],
                  "may_go": ["people", "ties", "places", "lines", "standing"],
                  "count_standings": ["people", "ties", "places", "lines"], "all_lead": ["places", "lines"],
                  "steps_between": ["people", "ties", "places", "lines", "standing", "goal"],
                  "parted_people": ["places", "lines"]},
    "catching": {"turns_to_catch": ["places", "lines", "seeker", "fleer"], "best_starts": ["places", "lines"],
                 "seeker_goes": ["places", "lines", "seeker", "fleer"]},
}
CLASSES = {
    "errors": {"InvalidNumber": ["__init__"], "InvalidNet": ["__init__"], "InvalidOrder": ["__init__"],
               "InvalidStanding": ["__init__"], "NotBeside": ["__init__"], "UnknownPlace": ["__init__"],
               "CannotFold": ["__init__"], "NothingToUndo": []},
    "desk": {"Desk": ["__init__", "__len__", "left", "order", "foldable", "goals", "fold", "run", "undo"]},
}
LIBRARY = {"heapq", "math", "itertools", "collections", "__future__"}
BUILTINS = {"len", "range", "enumerate", "zip", "min", "max", "sum", "abs", "sorted", "reversed", "int", "str", "bool",
            "bytes", "list", "tuple", "dict", "set", "frozenset", "isinstance", "ord", "repr", "any", "all", "divmod",
            "pow", "iter", "next", "map", "Exception", "ValueError", "KeyError", "IndexError", "LookupError",
            "property", "staticmethod", "classmethod", "super"}


def trees():
    return {path.stem: ast.parse(path.read_text("ascii")) for path in sorted(FOLDER.glob("*.py"))}


class Interface(unittest.TestCase):

    def test_functions(self):
        for module, listed in FUNCTIONS.items():
            loaded = importlib.import_module(f"foldednets.{module}")
            defined = [node.name for node in trees()[module].body if isinstance(node, ast.FunctionDef)]
            for name, parameters in listed.items():
                self.assertIn(name, defined)
                self.assertEqual(list(inspect.signature(getattr(loaded, name)).parameters), parameters)

    def test_classes(self):
        for module, listed in CLASSES.items():
            loaded = importlib.import_module(f"foldednets.{module}")
            defined = [node.name for node in trees()[module].body if isinstance(node, ast.ClassDef)]
            for name, methods in listed.items():
                self.assertIn(name, defined)
                for method in methods:
                    self.assertIn(method, vars(getattr(loaded, name)))

    def test_renamings_is_a_generator(self):
        function = importlib.import_module("foldednets.names").renamings
        self.assertTrue(inspect.isgeneratorfunction(function))

    def test_run_is_a_generator(self):
        desk = importlib.import_module("foldednets.desk").Desk
        self.assertTrue(inspect.isgeneratorfunction(desk.run))
        self.assertTrue(inspect.isgenerator(desk(2, [[1, 2]]).run()))

    def test_each_module_can_be_imported_first(self):
        for module in trees():
            name = "foldednets" if module == "__init__" else f"foldednets.{module}"
            done = subprocess.run([sys.executable, "-W", "error", "-B", "-c", f"import {name}"],
                                  cwd=FOLDER.parent, capture_output=True, check=False)
            self.assertEqual((done.returncode, done.stdout, done.stderr), (0, b"", b""), name)


class Files(unittest.TestCase):

    def test_sizes_and_characters(self):
        for path in FOLDER.glob("*.py"):
            rows = path.read_bytes().decode("ascii").split("\n")
            self.assertLessEqual(len(rows), 399, path.name)
            for line in rows:
                self.assertLessEqual(len(line), 120, path.name)
                self.assertTrue(all(" " <= sign <= "~" for sign in line), path.name)

    def test_short_functions(self):
        for tree in trees().values():
            for node in ast.walk(tree):
                if isinstance(node, ast.FunctionDef):
                    self.assertLessEqual(node.end_lineno - node.lineno + 1, 40, node.name)

    def test_imports_are_of_the_package_and_go_no_circle(self):
        heads = {}
        for name, tree in trees().items():
            heads[name] = set()
            for node in ast.walk(tree):
                self.assertNotIsInstance(node, (ast.Import, ast.Global, ast.Div))
                if isinstance(node, ast.ImportFrom) and node.module not in LIBRARY:
                    self.assertTrue(node.module.startswith("foldednets."))
                    heads[name].add(node.module.removeprefix("foldednets."))
        while heads:
            free = {name for name, needed in heads.items() if not needed & set(heads)}
            self.assertTrue(free, heads)
            heads = {name: needed for name, needed in heads.items() if name not in free}

    def test_few_builtins(self):
        for tree in trees().values():
            names = {node.id for node in ast.walk(tree) if isinstance(node, ast.Name)}
            # Running the examples leaves a name "_" among the builtins.
            self.assertLessEqual(names & set(dir(builtins)) - {"_"}, BUILTINS)

    def test_nothing_else_lies_in_the_package(self):
        found = {path.name for path in FOLDER.iterdir()} - {"__pycache__"}
        self.assertEqual(found, {f"{name}.py" for name in trees()})


if __name__ == "__main__":
    unittest.main()
