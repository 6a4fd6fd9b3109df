import unittest
from itertools import permutations

from crossline.changes import told_by
from crossline.errors import NoPoint, NoThree
from samples import CHANGES, FAR, LONG_A, LONG_B, LONG_C, LONG_D, NO_POINTS, POINTS, STILL, change_by_words, led

EIGHT = [(0, 1), (1, 1), FAR, (-2, 3), (5, 1), (1, 7), (-4, 1), (3, 2)]
CHANGE = (2, 3, 5, 7)
GOALS = [led(CHANGE, point) for point in EIGHT]
ODD = (9, 5)


class ToldBy(unittest.TestCase):
    """Promise [5]."""

    def test_ordinary_points(self):
        self.assertEqual(told_by([(0, 1), (1, 1), (2, 1)], [(1, 1), (2, 1), (3, 1)]), (1, 1, 0, 1))
        self.assertEqual(told_by([(1, 1), (2, 1), (3, 1)], [(0, 1), (-1, 1), (-2, 1)]), (1, -1, 0, -1))

    def test_with_the_far_point(self):
        self.assertEqual(told_by([(0, 1), (1, 1), FAR], [FAR, (1, 1), (0, 1)]), (0, 1, 1, 0))
        self.assertEqual(told_by([FAR, (0, 1), (1, 1)], [FAR, (0, 1), (1, 1)]), STILL)
        self.assertEqual(told_by([(2, 1), (3, 1), (4, 1)], [FAR, (0, 1), (1, 1)]), (2, -6, 1, -2))

    def test_every_order_of_three_points(self):
        for points in permutations([FAR, (0, 1), (1, 1)]):
            for goals in permutations([FAR, (-2, 3), (5, 1)]):
                change = told_by(list(points), list(goals))
                self.assertTrue(change_by_words(change), (points, goals))
                self.assertEqual([led(change, point) for point in points], list(goals))

    def test_every_small_change_is_told_again(self):
        for change in CHANGES:
            for start in range(3):
                points = EIGHT[start:start + 3]
                goals = [led(change, point) for point in points]
                self.assertEqual(told_by(points, goals), change)

    def test_three_to_eight_points(self):
        for many in range(3, 9):
            with self.subTest(many=many):
                self.assertEqual(told_by(EIGHT[:many], GOALS[:many]), CHANGE)

    def test_the_same_list_as_points_and_goals(self):
        self.assertEqual(told_by(EIGHT, EIGHT), STILL)

    def test_none_where_a_later_point_does_not_fit(self):
        for many in range(4, 9):
            for place in range(3, many):
                goals = GOALS[:many]
                goals[place] = ODD
                with self.subTest(many=many, place=place):
                    self.assertIsNone(told_by(EIGHT[:many], goals))

    def test_none_where_an_early_point_does_not_fit(self):
        for many in range(4, 9):
            for place in range(3):
                goals = GOALS[:many]
                goals[place] = ODD
                with self.subTest(many=many, place=place):
                    self.assertIsNone(told_by(EIGHT[:many], goals))

    def test_none_where_two_goals_are_changed_about(self):
        goals = GOALS[:6] + [GOALS[7], GOALS[6]]
        self.assertIsNone(told_by(EIGHT, goals))

    def test_a_change_or_none_for_each_fourth_goal(self):
        points = [(0, 1), (1, 1), FAR, (2, 1)]
        for goal in POINTS:
            if goal in [(0, 1), (1, 1), FAR]:
                continue
            told = told_by(points, [(0, 1), (1, 1), FAR, goal])
            self.assertEqual(told, STILL if goal == (2, 1) else None)

    def test_numbers_of_thirty_figures(self):
        points = [(LONG_A, 1), (LONG_B, LONG_B + 1), (-1, LONG_C), (LONG_D, 1)]
        self.assertEqual(told_by(points, [(top + bottom, bottom) for top, bottom in points]), (1, 1, 0, 1))
        goals = [(1, LONG_D), (-LONG_C, 1), (LONG_A, LONG_A - 1)]
        change = told_by(points[:3], goals)
        self.assertTrue(change_by_words(change))
        self.assertEqual([led(change, point) for point in points[:3]], goals)
        self.assertIsNone(told_by(points, goals + [(LONG_B, 1)]))


class Refused(unittest.TestCase):
    """Promise [5], and which refusal comes first."""

    def refuse(self, error, points, goals):
        with self.subTest(points=points, goals=goals):
            with self.assertRaises(error):
                told_by(points, goals)

    def test_too_few(self):
        for many in range(3):
            self.refuse(NoThree, EIGHT[:many], GOALS[:many])

    def test_too_many(self):
        for many in [9, 10, 20]:
            points = [(number, 1) for number in range(many)]
            self.refuse(NoThree, points, points)
            self.refuse(NoThree, points, [(number + 1, 1) for number in range(many)])

    def test_not_as_many_goals_as_points(self):
        nine = [(number, 1) for number in range(9)]
        for many, others in [(3, 4), (4, 3), (8, 7), (7, 8), (3, 0), (0, 3), (2, 3), (3, 2)]:
            self.refuse(NoThree, EIGHT[:many], GOALS[:others])
        self.refuse(NoThree, nine, GOALS)
        self.refuse(NoThree, EIGHT, nine)

    def test_two_alike(self):
        for many in [3, 4, 8]:
            for place in range(many):
                for other in range(place):
                    alike = EIGHT[:many]
                    alike[place] = alike[other]
                    self.refuse(NoThree, alike, GOALS[:many])
                    self.refuse(NoThree, GOALS[:many], alike)
                    self.refuse(NoThree, alike, alike)

    def test_two_alike_comes_ahead_of_none(self):
        self.refuse(NoThree, EIGHT[:5] + [EIGHT[4]], GOALS[:3] + [ODD, GOALS[4], GOALS[5]])
        self.refuse(NoThree, EIGHT[:5], GOALS[:3] + [ODD, ODD])

    def test_no_point(self):
        for pair in NO_POINTS:
            for place in [0, 2, 7]:
                wrong = list(EIGHT)
                wrong[place] = pair
                self.refuse(NoPoint, wrong, GOALS)
                self.refuse(NoPoint, GOALS, wrong)

    def test_no_point_comes_ahead_of_no_three(self):
        wrong = (0, 2)
        # Too few, too many, not as many.
        self.refuse(NoPoint, [wrong], [])
        self.refuse(NoPoint, [], [wrong])
        self.refuse(NoPoint, EIGHT[:2], [(0, 1), wrong])
        self.refuse(NoPoint, EIGHT + [(8, 1)], GOALS + [wrong])
        self.refuse(NoPoint, EIGHT + [wrong], GOALS)
        self.refuse(NoPoint, EIGHT[:3], GOALS[:3] + [wrong])
        # Two alike, also where the wrong one stands in the other list or behind them.
        self.refuse(NoPoint, [(0, 1), (0, 1), (1, 1)], [(0, 1), (1, 1), wrong])
        self.refuse(NoPoint, [(0, 1), (0, 1), wrong], GOALS[:3])
        self.refuse(NoPoint, [wrong, wrong, wrong], GOALS[:3])
        self.refuse(NoPoint, EIGHT[:3], [wrong, wrong, (1, 1)])

    def test_no_point_comes_ahead_of_none(self):
        self.refuse(NoPoint, EIGHT[:5], GOALS[:3] + [ODD, (-1, 0)])


if __name__ == "__main__":
    unittest.main()
