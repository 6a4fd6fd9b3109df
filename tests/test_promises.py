"""Promise [1] and the interface: exact, nothing changed or kept, nothing from outside."""

import ast
import inspect
import pathlib
import unittest

from crossline import changes, crossing, notes, points, turns
from crossline.errors import LineError, NoChange, NoNote, NoPoint, NoThree, NoTimes

PACKAGE = pathlib.Path(changes.__file__).parent


class NothingChangedOrKept(unittest.TestCase):
    def test_lists_are_not_changed(self):
        starts = [(0, 1), (1, 1), (2, 1), (3, 1)]
        goals = [(1, 1), (2, 1), (3, 1), (4, 1)]
        changes.told_by(starts, goals)
        self.assertEqual(starts, [(0, 1), (1, 1), (2, 1), (3, 1)])
        self.assertEqual(goals, [(1, 1), (2, 1), (3, 1), (4, 1)])

    def test_refused_or_unfit_lists_are_not_changed(self):
        starts = [(0, 1), (0, 1), (2, 1)]
        goals = [(1, 1), (2, 1), (0, 2)]
        with self.assertRaises(LineError):
            changes.told_by(starts, goals)
        self.assertEqual(starts, [(0, 1), (0, 1), (2, 1)])
        self.assertEqual(goals, [(1, 1), (2, 1), (0, 2)])
        starts = [(0, 1), (1, 1), (2, 1), (9, 1)]
        self.assertIsNone(changes.told_by(starts, [(0, 1), (1, 1), (2, 1), (3, 1)]))
        self.assertEqual(starts, [(0, 1), (1, 1), (2, 1), (9, 1)])

    def test_lists_may_be_changed_later(self):
        starts = [(0, 1), (1, 1), (2, 1)]
        goals = [(1, 1), (2, 1), (3, 1)]
        told = changes.told_by(starts, goals)
        goals[0] = (5, 1)
        starts.append((7, 1))
        goals.append((8, 1))
        self.assertEqual(told, (1, 1, 0, 1))
        self.assertIsNone(changes.told_by(starts, goals))
        goals[0] = (1, 1)
        self.assertEqual(changes.told_by(starts, goals), (1, 1, 0, 1))

    def test_asked_again_it_is_the_same(self):
        for turn in range(3):
            self.assertEqual(changes.moved((2, 3, 5, 7), (1, 1)), (5, 12))
            self.assertEqual(changes.power((1, 1, 0, 1), 3), (1, 3, 0, 1))
            self.assertEqual(changes.power((1, 1, 0, 1), 0), (1, 0, 0, 1))
            self.assertEqual(crossing.cross((2, 1), (3, 1), (4, 1), (5, 1)), (4, 3))
            self.assertEqual(crossing.fourth((2, 1), (3, 1), (4, 1), (4, 3)), (5, 1))
            self.assertEqual(turns.turns((1, 1, -1, 1)), 4)
            self.assertEqual(turns.kept((2, 0, 0, 1)), [(0, 1), (1, 0)])
            self.assertIsNone(turns.kept((1, 0, 0, 1)))
            self.assertEqual(notes.read_point(notes.shown_point((3, 4))), (3, 4))
            self.assertEqual(notes.read_change(notes.shown_change((2, 3, 5, 7))), (2, 3, 5, 7))

    def test_what_was_told_may_be_changed(self):
        told = turns.kept((0, 1, 1, 0))
        told.clear()
        self.assertEqual(turns.kept((0, 1, 1, 0)), [(-1, 1), (1, 1)])
        starts = turns.kept((0, 1, 1, 0)) + [(1, 0)]
        self.assertEqual(changes.told_by(starts, starts), (1, 0, 0, 1))
        starts.reverse()
        self.assertEqual(turns.kept((0, 1, 1, 0)), [(-1, 1), (1, 1)])


class BeyondTheBounds(unittest.TestCase):
    """Nothing is refused for numbers somewhat beyond thirty figures, but by what [12] says of reading."""

    def test_long_numbers(self):
        long = 10 ** 40 + 1
        change = (long, 1, 0, 1)
        self.assertTrue(points.is_point((long, long + 1)))
        self.assertTrue(changes.is_change(change))
        self.assertEqual(changes.moved(change, (1, 1)), (long + 1, 1))
        self.assertEqual(changes.back(change), (1, -1, 0, long))
        self.assertEqual(changes.power(change, 60)[0], long ** 60)
        self.assertEqual(crossing.cross((1, 0), (0, 1), (1, 1), (long, 1)), (long, 1))
        self.assertEqual(crossing.fourth((1, 0), (0, 1), (long, 1), (long, 1)), (long * long, 1))
        self.assertIsNone(turns.turns(change))
        self.assertEqual(turns.turns((long, 1, 1, -long)), 2)
        self.assertEqual(turns.kept((0, long * long, 1, 0)), [(-long, 1), (long, 1)])
        one, other = turns.two_turns(change)
        self.assertEqual(changes.after(one, other), change)
        self.assertEqual(notes.shown_point((1, long)), "1/1" + "0" * 39 + "1")
        with self.assertRaises(NoNote):
            notes.read_point(notes.shown_point((1, long)))


class WhichRefusal(unittest.TestCase):
    """No change, then no point, then as it is told."""

    def refuse(self, error, function, *values):
        with self.subTest(function=function.__name__, values=values):
            with self.assertRaises(error) as raised:
                function(*values)
            self.assertIs(type(raised.exception), error)

    def test_where_two_could_be_given(self):
        no_change = (2, 0, 0, 2)
        no_point = (2, 4)
        self.refuse(NoChange, changes.moved, no_change, no_point)
        self.refuse(NoChange, changes.power, no_change, 61)
        self.refuse(NoPoint, changes.told_by, [no_point], [])
        self.refuse(NoPoint, crossing.cross, (1, 1), (1, 1), (1, 1), no_point)
        self.refuse(NoPoint, crossing.fourth, (1, 1), (1, 1), (1, 1), no_point)

    def test_where_one_is_given(self):
        no_change = (2, 0, 0, 2)
        no_point = (2, 4)
        self.refuse(NoPoint, changes.moved, (1, 0, 0, 1), no_point)
        self.refuse(NoTimes, changes.power, (1, 0, 0, 1), 61)
        self.refuse(NoThree, crossing.cross, (1, 1), (1, 1), (1, 1), (1, 1))
        self.refuse(NoThree, crossing.fourth, (1, 1), (1, 1), (1, 1), (1, 1))
        for function in (changes.back, turns.turns, turns.kept, turns.two_turns, notes.shown_change):
            self.refuse(NoChange, function, no_change)
        self.refuse(NoPoint, notes.shown_point, no_point)

    def test_a_text_that_tells_no_point_or_no_change_is_no_note(self):
        self.refuse(NoNote, notes.read_point, "2/4")
        self.refuse(NoNote, notes.read_point, "1/0")
        self.refuse(NoNote, notes.read_change, "2 0 0 2")
        self.refuse(NoNote, notes.read_change, "1 1 1 1")


class Interface(unittest.TestCase):
    def arguments(self, function):
        return list(inspect.signature(function).parameters)

    def test_names_and_arguments(self):
        self.assertEqual(self.arguments(points.is_point), ["point"])
        self.assertEqual(self.arguments(changes.is_change), ["change"])
        self.assertEqual(self.arguments(changes.moved), ["change", "point"])
        self.assertEqual(self.arguments(changes.after), ["one", "other"])
        self.assertEqual(self.arguments(changes.back), ["change"])
        self.assertEqual(self.arguments(changes.power), ["change", "times"])
        self.assertEqual(self.arguments(changes.told_by), ["points", "goals"])
        self.assertEqual(self.arguments(crossing.cross), ["one", "two", "three", "four"])
        self.assertEqual(self.arguments(crossing.fourth), ["one", "two", "three", "number"])
        self.assertEqual(self.arguments(turns.turns), ["change"])
        self.assertEqual(self.arguments(turns.kept), ["change"])
        self.assertEqual(self.arguments(turns.two_turns), ["change"])
        self.assertEqual(self.arguments(notes.shown_point), ["point"])
        self.assertEqual(self.arguments(notes.shown_change), ["change"])
        self.assertEqual(self.arguments(notes.read_point), ["text"])
        self.assertEqual(self.arguments(notes.read_change), ["text"])

    def test_points_and_changes_are_tuples_of_whole_numbers(self):
        three = [(0, 1), (1, 1), (1, 0)]
        told = [
            changes.moved((2, 3, 5, 7), (1, 1)),
            changes.moved((0, 1, 1, 0), (0, 1)),
            changes.after((2, 3, 5, 7), (1, 1, 0, 1)),
            changes.back((2, 3, 5, 7)),
            changes.power((2, 3, 5, 7), 3),
            changes.power((2, 3, 5, 7), 0),
            changes.told_by(three, three),
            crossing.cross((0, 1), (1, 1), (1, 0), (2, 3)),
            crossing.cross((0, 1), (1, 1), (1, 0), (0, 1)),
            crossing.fourth((0, 1), (1, 1), (1, 0), (2, 3)),
            notes.read_point("-3/4"),
            notes.read_point("5"),
            notes.read_point("far"),
            notes.read_change("2 3 5 7"),
        ]
        told += turns.kept((0, 1, 1, 0)) + turns.kept((2, 0, 0, 1)) + turns.kept((1, 0, 1, 1))
        told += list(turns.two_turns((2, 3, 5, 7))) + list(turns.two_turns((1, 0, 0, 1)))
        for value in told:
            self.assertIs(type(value), tuple)
            self.assertEqual([type(number) for number in value], [int] * len(value))

    def test_other_kinds(self):
        self.assertIs(type(turns.turns((0, 1, 1, 0))), int)
        self.assertIs(type(turns.turns((1, 0, 0, 1))), int)
        for change in [(0, 1, 1, 0), (2, 0, 0, 1), (1, 1, 0, 1), (0, 1, -1, 0)]:
            self.assertIs(type(turns.kept(change)), list)
        self.assertIs(type(turns.two_turns((2, 3, 5, 7))), tuple)
        for text in [notes.shown_point((1, 0)), notes.shown_point((5, 1)), notes.shown_change((1, 0, 0, 1))]:
            self.assertIs(type(text), str)


class NothingFromOutside(unittest.TestCase):
    def test_only_the_package_is_imported(self):
        files = sorted(PACKAGE.glob("*.py"))
        self.assertTrue(files)
        for path in files:
            for node in ast.walk(ast.parse(path.read_text())):
                with self.subTest(file=path.name):
                    self.assertNotIsInstance(node, ast.Import)
                    if isinstance(node, ast.ImportFrom):
                        self.assertEqual(node.module.split(".")[0], "crossline")

    def test_no_file_is_opened_and_no_float_is_used(self):
        for path in sorted(PACKAGE.glob("*.py")):
            for node in ast.walk(ast.parse(path.read_text())):
                with self.subTest(file=path.name):
                    self.assertNotIsInstance(node, ast.Div)
                    if isinstance(node, ast.Name):
                        self.assertNotIn(node.id, ("open", "input", "print", "float", "exec", "eval"))
                    if isinstance(node, ast.Constant):
                        self.assertNotIsInstance(node.value, (float, complex))


if __name__ == "__main__":
    unittest.main()
