"""Names, arguments and errors of the interface, and what holds of all files."""

import ast
import importlib
import inspect
import pathlib
import unittest

from ropedance import errors

PACKAGE = pathlib.Path(__file__).resolve().parent.parent / "ropedance"
FUNCTIONS = (
    ("fractions", "fraction", ["p", "q"]),
    ("fractions", "less", ["one", "other"]),
    ("fractions", "after", ["fraction", "dance"]),
    ("dances", "is_dance", ["text"]),
    ("dances", "number", ["dance"]),
    ("dances", "backward", ["dance"]),
    ("dances", "mirrored", ["dance"]),
    ("dances", "partner", ["dance"]),
    ("dances", "pieces", ["dance", "way"]),
    ("moves", "is_move", ["move"]),
    ("moves", "made", ["dance", "move"]),
    ("moves", "leads", ["one", "moves", "other"]),
    ("standard", "standard", ["fraction"]),
    ("standard", "to_standard", ["dance"]),
    ("diagrams", "diagram", ["dance"]),
    ("diagrams", "is_colouring", ["dance", "colours"]),
    ("diagrams", "colouring", ["dance", "first", "second"]),
    ("diagrams", "reading", ["dance", "colours"]),
    ("diagrams", "colour_count", ["dance", "way", "n"]),
    ("judge", "judge", ["one", "other"]),
    ("judge", "accepts", ["one", "other", "paper"]),
    ("least", "steps", ["fraction"]),
    ("least", "undo", ["dance"]),
    ("order", "place", ["fraction"]),
    ("order", "fraction_at", ["place"]),
    ("order", "fractions_with", ["step_count"]),
    ("texts", "write_dance", ["dance"]),
    ("texts", "read_dance", ["text"]),
    ("texts", "write_moves", ["moves"]),
    ("texts", "read_moves", ["lines"]),
)
ERRORS = ("NoFraction", "BadMove", "BadText", "NoDance")
# What the rules for the code let a file import from outside the package.
OUTSIDE = {
    "heapq": {"heappush", "heappop", "heapify", "heapreplace", "heappushpop"},
    "math": {"gcd", "lcm", "isqrt", "comb", "perm", "factorial"},
    "itertools": {"product", "combinations", "permutations", "chain", "accumulate", "pairwise",
                  "islice", "zip_longest"},
    "collections": {"defaultdict", "deque"},
}


def package_files():
    return sorted(path for path in PACKAGE.rglob("*") if "__pycache__" not in path.parts)


class InterfaceTest(unittest.TestCase):
    def test_each_function_is_defined_in_its_file_with_its_arguments(self):
        for file_name, name, arguments in FUNCTIONS:
            with self.subTest(name=name):
                module = importlib.import_module("ropedance." + file_name)
                function = getattr(module, name)
                self.assertTrue(inspect.isfunction(function))
                self.assertEqual(function.__module__, "ropedance." + file_name)
                self.assertEqual(function.__name__, name)
                self.assertEqual(list(inspect.signature(function).parameters), arguments)

    def test_arguments_may_be_passed_by_their_names(self):
        from ropedance.dances import backward, is_dance, mirrored, number, partner, pieces
        from ropedance.fractions import after, fraction, less
        self.assertEqual(fraction(p=2, q=4), (1, 2))
        self.assertIs(less(one=(0, 1), other=(1, 2)), True)
        self.assertEqual(after(fraction=(1, 2), dance="T"), (3, 2))
        self.assertIs(is_dance(text="TUR"), True)
        self.assertEqual(number(dance="T"), (1, 1))
        self.assertEqual(backward(dance="TR"), "RU")
        self.assertEqual(mirrored(dance="TR"), "UR")
        self.assertEqual(partner(dance="T"), "se")
        self.assertEqual(pieces(dance="T", way="down"), 1)

    def test_arguments_of_moves_and_diagrams_may_be_passed_by_their_names(self):
        from ropedance.diagrams import colour_count, colouring, diagram, is_colouring, reading
        from ropedance.moves import is_move, leads, made
        from ropedance.standard import standard, to_standard
        self.assertIs(is_move(move=(3, "", "RR")), True)
        self.assertEqual(made(dance="TU", move=(0, "TU", "")), "")
        self.assertIs(leads(one="TU", moves=[(0, "TU", "")], other=""), True)
        self.assertEqual(standard(fraction=(-1, 2)), "TTR")
        self.assertEqual(to_standard(dance="TTR"), [])
        self.assertEqual(diagram(dance="R"), (2, [], (1, 0, 1, 0)))
        self.assertIs(is_colouring(dance="T", colours=[0, 1, -1]), True)
        self.assertEqual(colouring(dance="T", first=0, second=1), [0, 1, -1])
        self.assertEqual(reading(dance="T", colours=[0, 1, -1]), (1, 1))
        self.assertEqual(colour_count(dance="TTT", way="across", n=3), 9)

    def test_arguments_of_papers_least_dances_order_and_texts_may_be_passed_by_their_names(self):
        from ropedance.judge import accepts, judge
        from ropedance.least import LeastDances, steps, undo
        from ropedance.order import fraction_at, fractions_with, place
        from ropedance.texts import read_dance, read_moves, write_dance, write_moves
        self.assertEqual(judge(one="T", other="U")[0], "apart")
        self.assertIs(accepts(one="TU", other="", paper=("alike", [(0, "TU", "")])), True)
        self.assertEqual(steps(fraction=(1, 2)), 3)
        self.assertEqual(undo(dance="TTR"), "RUU")
        least = LeastDances(fraction=(2, 3))
        self.assertEqual(least.dance(rank=1), "TTTRT")
        self.assertEqual(least.rank_of(dance="TTTRT"), 1)
        self.assertEqual(list(least.dances(start=1)), ["TTTRT"])
        self.assertEqual(place(fraction=(1, 1)), 2)
        self.assertEqual(fraction_at(place=2), (1, 1))
        self.assertEqual(fractions_with(step_count=0), [(0, 1)])
        self.assertEqual(write_dance(dance="TT"), "T2")
        self.assertEqual(read_dance(text="T2"), "TT")
        self.assertEqual(write_moves(moves=[(0, "", "RR")]), ["0 - RR"])
        self.assertEqual(read_moves(lines=["0 - RR"]), [(0, "", "RR")])

    def test_the_class_of_least_dances_is_defined_in_its_file_with_its_methods(self):
        from ropedance import least
        of_class = least.LeastDances
        self.assertTrue(inspect.isclass(of_class))
        self.assertEqual((of_class.__module__, of_class.__name__), ("ropedance.least", "LeastDances"))
        self.assertEqual(list(inspect.signature(of_class).parameters), ["fraction"])
        self.assertIsInstance(vars(of_class)["dance_count"], property)
        for name, arguments in (("dance", ["self", "rank"]), ("rank_of", ["self", "dance"]),
                                ("dances", ["self", "start"])):
            method = vars(of_class)[name]
            self.assertTrue(inspect.isfunction(method))
            self.assertEqual(list(inspect.signature(method).parameters), arguments)
        self.assertTrue(inspect.isgeneratorfunction(vars(of_class)["dances"]))


class ErrorsTest(unittest.TestCase):
    def test_the_base_class_is_a_value_error(self):
        self.assertEqual(errors.RopeError.__bases__, (ValueError,))
        self.assertEqual(errors.RopeError.__module__, "ropedance.errors")

    def test_each_error_stands_right_below_the_base_class(self):
        for name in ERRORS:
            with self.subTest(name=name):
                error = getattr(errors, name)
                self.assertEqual(error.__bases__, (errors.RopeError,))
                self.assertEqual(error.__module__, "ropedance.errors")
                self.assertEqual(error.__name__, name)

    def test_no_error_is_another_one(self):
        classes = [getattr(errors, name) for name in ERRORS]
        for one in classes:
            for other in classes:
                self.assertEqual(issubclass(one, other), one is other)

    def test_each_error_takes_a_message(self):
        for name in ("RopeError",) + ERRORS:
            self.assertEqual(str(getattr(errors, name)("why not")), "why not")


class FilesTest(unittest.TestCase):
    def test_the_package_holds_python_files_only(self):
        self.assertTrue((PACKAGE / "__init__.py").is_file())
        for path in package_files():
            self.assertTrue(path.is_file() and path.suffix == ".py", path)

    def test_imports_bring_no_clock_no_random_numbers_and_no_files(self):
        for path in package_files():
            for node in ast.walk(ast.parse(path.read_text(encoding="utf-8"))):
                self.assertNotIsInstance(node, ast.Import, path)
                if isinstance(node, ast.ImportFrom):
                    self.check_import(path, node)

    def check_import(self, path, node):
        self.assertEqual(node.level, 0, path)
        if not node.module.startswith("ropedance."):
            names = {alias.name for alias in node.names}
            self.assertLessEqual(names, OUTSIDE.get(node.module, set()), path)

    def test_builtins_that_reach_outside_are_not_named(self):
        barred = {"open", "input", "print", "exec", "eval", "compile", "globals", "__import__"}
        for path in package_files():
            nodes = ast.walk(ast.parse(path.read_text(encoding="utf-8")))
            names = {node.id for node in nodes if isinstance(node, ast.Name)}
            self.assertEqual(names & barred, set(), path)

    def test_characters_and_sizes(self):
        for path in package_files():
            text = path.read_text(encoding="utf-8")
            self.assertTrue(all(" " <= sign <= "~" or sign == "\n" for sign in text), path)
            self.assertLessEqual(len(text.splitlines()), 399, path)
            self.assertLessEqual(max(map(len, text.splitlines()), default=0), 120, path)
            for node in ast.walk(ast.parse(text)):
                if isinstance(node, ast.FunctionDef):
                    self.assertLessEqual(node.end_lineno - node.lineno + 1, 40, node.name)
                if isinstance(node, ast.Constant) and isinstance(node.value, str):
                    self.assertNotIn("%", node.value, path)


if __name__ == "__main__":
    unittest.main()
