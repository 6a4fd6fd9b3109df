"""Promise [1] and the interface: exact, nothing changed or kept, nothing from outside."""

import ast
import inspect
import pathlib
import unittest

from crossline import changes, points
from crossline.errors import LineError

PACKAGE = pathlib.Path(changes.__file__).parent


class NothingChangedOrKept(unittest.TestCase):
    def test_lists_are_not_changed(self):
        starts = [(0, 1), (1, 1), (2, 1), (3, 1)]
        goals = [(1, 1), (2, 1), (3, 1), (4, 1)]
        changes.told_by(starts, goals)
        self.assertEqual(starts, [(0, 1), (1, 1), (2, 1), (3, 1)])
        self.assertEqual(goals, [(1, 1), (2, 1), (3, 1), (4, 1)])

    def test_refused_or_unfit_lists_are_not_changed(self):
        starts = [(0, 1), (0, 1), (2, 1)]
        goals = [(1, 1), (2, 1), (0, 2)]
        with self.assertRaises(LineError):
            changes.told_by(starts, goals)
        self.assertEqual(starts, [(0, 1), (0, 1), (2, 1)])
        self.assertEqual(goals, [(1, 1), (2, 1), (0, 2)])
        starts = [(0, 1), (1, 1), (2, 1), (9, 1)]
        self.assertIsNone(changes.told_by(starts, [(0, 1), (1, 1), (2, 1), (3, 1)]))
        self.assertEqual(starts, [(0, 1), (1, 1), (2, 1), (9, 1)])

    def test_lists_may_be_changed_later(self):
        starts = [(0, 1), (1, 1), (2, 1)]
        goals = [(1, 1), (2, 1), (3, 1)]
        told = changes.told_by(starts, goals)
        goals[0] = (5, 1)
        starts.append((7, 1))
        goals.append((8, 1))
        self.assertEqual(told, (1, 1, 0, 1))
        self.assertIsNone(changes.told_by(starts, goals))
        goals[0] = (1, 1)
        self.assertEqual(changes.told_by(starts, goals), (1, 1, 0, 1))

    def test_asked_again_it_is_the_same(self):
        for turn in range(3):
            self.assertEqual(changes.moved((2, 3, 5, 7), (1, 1)), (5, 12))
            self.assertEqual(changes.power((1, 1, 0, 1), 3), (1, 3, 0, 1))
            self.assertEqual(changes.power((1, 1, 0, 1), 0), (1, 0, 0, 1))


class Interface(unittest.TestCase):
    def arguments(self, function):
        return list(inspect.signature(function).parameters)

    def test_names_and_arguments(self):
        self.assertEqual(self.arguments(points.is_point), ["point"])
        self.assertEqual(self.arguments(changes.is_change), ["change"])
        self.assertEqual(self.arguments(changes.moved), ["change", "point"])
        self.assertEqual(self.arguments(changes.after), ["one", "other"])
        self.assertEqual(self.arguments(changes.back), ["change"])
        self.assertEqual(self.arguments(changes.power), ["change", "times"])
        self.assertEqual(self.arguments(changes.told_by), ["points", "goals"])

    def test_points_and_changes_are_tuples_of_whole_numbers(self):
        three = [(0, 1), (1, 1), (1, 0)]
        told = [
            changes.moved((2, 3, 5, 7), (1, 1)),
            changes.moved((0, 1, 1, 0), (0, 1)),
            changes.after((2, 3, 5, 7), (1, 1, 0, 1)),
            changes.back((2, 3, 5, 7)),
            changes.power((2, 3, 5, 7), 3),
            changes.power((2, 3, 5, 7), 0),
            changes.told_by(three, three),
        ]
        for value in told:
            self.assertIs(type(value), tuple)
            self.assertEqual([type(number) for number in value], [int] * len(value))


class NothingFromOutside(unittest.TestCase):
    def test_only_the_package_is_imported(self):
        files = sorted(PACKAGE.glob("*.py"))
        self.assertTrue(files)
        for path in files:
            for node in ast.walk(ast.parse(path.read_text())):
                with self.subTest(file=path.name):
                    self.assertNotIsInstance(node, ast.Import)
                    if isinstance(node, ast.ImportFrom):
                        self.assertEqual(node.module.split(".")[0], "crossline")

    def test_no_file_is_opened_and_no_float_is_used(self):
        for path in sorted(PACKAGE.glob("*.py")):
            for node in ast.walk(ast.parse(path.read_text())):
                with self.subTest(file=path.name):
                    self.assertNotIsInstance(node, ast.Div)
                    if isinstance(node, ast.Name):
                        self.assertNotIn(node.id, ("open", "input", "print", "float", "exec", "eval"))
                    if isinstance(node, ast.Constant):
                        self.assertNotIsInstance(node.value, (float, complex))


if __name__ == "__main__":
    unittest.main()
