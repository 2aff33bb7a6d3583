"""The interface's names and arguments, and those rules for the code that are easily seen."""

import ast
import builtins
import importlib
import inspect
import pathlib
import unittest

from overpasses.edits.session import Session

ROOT = pathlib.Path(__file__).resolve().parent.parent
PACKAGE = ROOT / "overpasses"

INTERFACE = {
    "overpasses.nets.net": {
        "is_net": ["net"],
        "price": ["net", "a", "b"],
        "neighbours": ["net", "a"],
        "with_price": ["net", "a", "b", "value"],
        "road_sum": ["net", "road"],
    },
    "overpasses.nets.texts": {
        "write_net": ["net"],
        "read_net": ["text"],
    },
    "overpasses.pairs.orders": {
        "is_order": ["net", "order"],
        "ranks": ["order"],
        "greedy_order": ["net"],
    },
    "overpasses.pairs.pairs": {
        "pairs": ["net", "order"],
        "upper": ["net", "order"],
        "steps": ["net", "order"],
        "chain": ["net", "order", "place"],
        "witness": ["net", "order", "u", "v"],
        "check_pairs": ["net", "order", "found", "ways"],
        "needing": ["net", "order", "u", "v"],
    },
    "overpasses.filling.fill": {
        "fill": ["net", "order"],
        "lower_places": ["rows", "order"],
        "check_filling": ["net", "order", "rows"],
    },
    "overpasses.filling.ways": {
        "price_of": ["rows", "x", "y"],
        "middle_of": ["rows", "x", "y"],
        "road_of": ["rows", "x", "y"],
    },
    "overpasses.answers.search": {
        "up_sums": ["order", "rows", "place"],
        "down_sums": ["order", "rows", "place"],
        "answer": ["order", "rows", "start", "stop"],
        "answers": ["order", "rows", "start", "stops"],
    },
    "overpasses.answers.roads": {
        "answer_road": ["order", "rows", "start", "stop"],
    },
    "overpasses.answers.papers": {
        "paper": ["net", "place"],
        "check_answer": ["net", "start", "stop", "number", "road", "paper"],
    },
    "overpasses.labels.prices": {
        "true_prices": ["order", "rows"],
        "slack_ways": ["order", "rows"],
        "without_slack": ["order", "rows"],
    },
    "overpasses.labels.labels": {
        "labels": ["order", "rows"],
        "label_answer": ["forward", "backward"],
        "label_size": ["labels"],
    },
    "overpasses.best.roads": {
        "best_roads": ["net", "start", "goal", "count"],
    },
    "overpasses.best.turns": {
        "turn_net": ["net", "turns"],
        "run_sum": ["net", "turns", "run"],
        "answer_with_turns": ["net", "turns", "start", "goal"],
        "check_turns": ["net", "turns", "start", "goal", "answer"],
    },
}

SESSION = {
    "__init__": ["net", "order"],
    "edit": ["a", "b", "price"],
    "edit_all": ["edits"],
    "undo": [],
    "looked": [],
    "net": [],
    "filling": [],
    "price": ["x", "y"],
    "road": ["x", "y"],
    "copy": [],
}

BUILTINS = """
    len range enumerate zip min max sum abs sorted reversed int str bool list tuple dict set isinstance ord repr
    any all divmod ValueError KeyError IndexError LookupError ZeroDivisionError
""".split()

# An example that is run may leave its answer among the builtins, as `_`.
TAKEN = set(dir(builtins)) - {"_"}

LIBRARY = {"heapq", "math", "itertools", "collections"}


def files():
    return sorted(PACKAGE.rglob("*.py"))


def trees():
    return [(path, ast.parse(path.read_text())) for path in files()]


class Interface(unittest.TestCase):
    def test_functions(self):
        for module_name, functions in INTERFACE.items():
            module = importlib.import_module(module_name)
            for name, arguments in functions.items():
                function = getattr(module, name)
                self.assertEqual(function.__module__, module_name)
                self.assertEqual(list(inspect.signature(function).parameters), arguments)

    def test_the_class(self):
        self.assertEqual(Session.__module__, "overpasses.edits.session")
        for name, arguments in SESSION.items():
            method = vars(Session)[name]
            self.assertEqual(list(inspect.signature(method).parameters), ["self", *arguments])


class Rules(unittest.TestCase):
    def test_the_folder_holds_python_files_only(self):
        for path in PACKAGE.rglob("*"):
            if path.name != "__pycache__" and path.parent.name != "__pycache__":
                self.assertRegex(path.name, r"\A[a-z_0-9]+(\.py)?\Z")
                self.assertTrue(path.suffix == ".py" or (path / "__init__.py").is_file(), path)

    def test_characters(self):
        for path in files():
            text = path.read_bytes().decode("ascii")
            self.assertRegex(text, r"\A[\n -~]*\Z", path)

    def test_sizes(self):
        for path, tree in trees():
            lines = path.read_text().splitlines()
            self.assertLessEqual(len(lines), 399, path)
            self.assertLessEqual(max(len(line) for line in lines), 120, path)
            for node in ast.walk(tree):
                if isinstance(node, ast.FunctionDef):
                    self.assertLessEqual(node.end_lineno - node.lineno + 1, 40, (path, node.name))

    def test_imports(self):
        for path, tree in trees():
            for node in ast.walk(tree):
                self.assertNotIsInstance(node, ast.Import, path)
                if isinstance(node, ast.ImportFrom):
                    self.assertIn(node, tree.body)
                    self.assertEqual(node.level, 0)
                    self.assertIn(node.module.split(".")[0], LIBRARY | {"overpasses"})
                    if node.module.startswith("overpasses"):
                        source = ROOT / (node.module.replace(".", "/") + ".py")
                        self.assertTrue(source.is_file(), node.module)

    def test_module_level(self):
        for path, tree in trees():
            self.assertIsNotNone(ast.get_docstring(tree), path)
            for node in tree.body[1:]:
                self.assertIsInstance(node, (ast.ImportFrom, ast.FunctionDef, ast.ClassDef, ast.Assign), path)

    def test_builtins(self):
        for path, tree in trees():
            for node in ast.walk(tree):
                if isinstance(node, ast.Name) and node.id in TAKEN:
                    self.assertIsInstance(node.ctx, ast.Load, (path, node.id))
                    self.assertIn(node.id, BUILTINS, path)
                if isinstance(node, ast.arg):
                    self.assertNotIn(node.arg, TAKEN, path)

    def test_no_floats_and_no_percent_signs(self):
        for path, tree in trees():
            for node in ast.walk(tree):
                self.assertNotIsInstance(node, ast.Div, path)
                if isinstance(node, ast.Constant):
                    self.assertNotIsInstance(node.value, (float, complex), path)
                    if isinstance(node.value, str):
                        self.assertNotIn("%", node.value, path)


if __name__ == "__main__":
    unittest.main()
